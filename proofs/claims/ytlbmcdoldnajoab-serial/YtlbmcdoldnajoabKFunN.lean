import Derived.Test.YtlbmcdoldnajoabKFunL
import Derived.Test.YtlbmcdoldnajoabKFunI
import Derived.Test.YtlbmcdoldnajoabKPm
import Derived.Deep.RegionHeld3
import Derived.Test.YtlbmcdoldnajoabFrA
import Derived.SizedLaws
import Derived.Test.YtlbmcdoldnajoabKFunK
import Derived.JoinedCond

namespace Go.Proofs.Ytlbmcdoldnajoab
open Go.RowKit
/-- what played hands back: a run in which all have ended -/
def PlayedP (cf : ConfM) (N : Nat) (w : World) (e : Ending) (w' : World) : Prop := ∃ rb o v R, e = .returned (ptrV rb) ∧ KP o w' rb R v ∧ KOk N R ∧ openN R.d = 0 ∧ R.d.c = cf ∧ (∀ k, o k ≠ none → w.heap.size ≤ k) ∧ Below w.heap.size w w'
/-- where played stands -/
def PlZ (w : World) (rb : Nat) (R : RM) (Z : World) : Prop := ∃ o v, KP o Z rb R v ∧ (∀ k, o k ≠ none → w.heap.size ≤ k) ∧ Below w.heap.size w Z
theorem PlZ.next {w : World} {rb : Nat} {R' : RM} {Z Z' : World} {o : Nat → Option Nat} (ho : ∀ k, o k ≠ none → w.heap.size ≤ k) (hb : Below w.heap.size w Z) (hs : KStp o Z rb R' Z') : PlZ w rb R' Z' := by
  obtain ⟨o', v', h1, h2, h3, _⟩ := BegZ.next (xb := R'.xb) ho hb rfl hs
  exact ⟨o', v', h1, h2, h3⟩
set_option maxRecDepth 100000 in
set_option maxHeartbeats 1000000 in
theorem played_k (a b c d : Int) (w : World) (ha : i64B a) (hb : i64B b) (hc : i64B c) (hd : i64B d) {S : List Sc} (hN : S.length ≤ 800000000) {sv : Value} (hs : ScrAt w.heap.size w sv S) :
    Calls Try.prog 5 #[confV a b c d, sv] w fun e w' => PlayedP (fitM a b c d) (1 + S.length) w e w' := by
  have HBg : Hid (∀ W, Calls Try.prog 11 #[.agg #[.int .i64 a, .int .i64 b, .int .i64 c, .int .i64 d]] W fun e w' => BegP (fitM a b c d) W e w') := fun W => begin_k a b c d W ha hb hc hd
  have hok := fit_ok a b c d
  generalize fitM a b c d = cf at *
  have HOk : Hid (((1 ≤ cf.workers ∧ cf.workers ≤ 4) ∧ (1 ≤ cf.queue ∧ cf.queue ≤ 8) ∧ (1 ≤ cf.fuel ∧ cf.fuel ≤ 200) ∧ cf.patience ≤ 5) ∧ 3 ≤ cf.fuel) := hok
  have HS : Hid (ScrAt w.heap.size w sv S ∧ S.length ≤ 800000000) := ⟨hs, hN⟩
  obtain ⟨⟨ao, cap, hv, _⟩, _⟩ := hs
  obtain ⟨n, hn⟩ : ∃ n, n = S.length := ⟨_, rfl⟩
  rw [← hn] at hv
  subst hv
  unfold confV
  clear ha hb hc hd hok hN hn
  go_enter Try.func5, Try.ntmps5
  go_wp2_with fail
  refine (HBg.out _).mono ?_
  clear HBg
  rintro e Z ⟨rb, xb, o, v, rfl, hkp, ho, hb⟩
  have hbw : Below w.heap.size w (w.alloc (.cells #[.int .i64 a, .int .i64 b, .int .i64 c, .int .i64 d] 23)) := (Below.refl _ _).alloc (Nat.le_refl _) _
  have HZ : Hid (KP o Z rb (run5 cf xb 5) v ∧ (∀ k, o k ≠ none → w.heap.size ≤ k) ∧ Below w.heap.size w Z) := ⟨hkp, fun k hk => Nat.le_trans hbw.size (ho k hk), hbw.trans (hb.mono hbw.size)⟩
  have HK1 : Hid (KOk1 1 (run5 cf xb 5) ∧ (run5 cf xb 5).d.c = cf) := by
    have h5 := run5_ok xb HOk.out.1 HOk.out.2 5
    exact ⟨⟨h5.1, by rw [h5.1.k.len, run5_len xb HOk.out.1 HOk.out.2 5]; exact Nat.le_refl _⟩, h5.2⟩
  clear hkp ho hb hbw
  have hP := play_k (S := S) HZ.out.1 HK1.out.1 (by have := HS.out.2; omega) (HS.out.1.below HZ.out.2.2) HZ.out.2.1 HZ.out.2.2.size
  unfold ptrV at *
  go_wp2_with fail
  refine hP.mono ?_
  clear hP
  rintro e Z1 ⟨rfl, hst⟩
  obtain ⟨hk2, hc2⟩ := HK1.out.1.play S
  rw [HK1.out.2] at hc2
  obtain ⟨o1, v1, h1, h2, h3⟩ := PlZ.next HZ.out.2.1 HZ.out.2.2 hst
  have HZ1 : Hid (KP o1 Z1 rb ((run5 cf xb 5).playR S) v1 ∧ (∀ k, o1 k ≠ none → w.heap.size ≤ k) ∧ Below w.heap.size w Z1 ∧ KOk (1 + S.length) ((run5 cf xb 5).playR S) ∧ ((run5 cf xb 5).playR S).d.c = cf) := ⟨h1, h2, h3, hk2.ok, hc2⟩
  have hF := finish_k (J := fun _ => True) (fun _ _ _ _ _ => trivial) h1 hk2.ok trivial (by have := HS.out.2; omega)
  rw [hc2] at hF
  unfold ptrV at hF
  clear hst hk2 hc2 h1 h2 h3 HZ HK1
  go_wp2_with fail
  refine hF.mono ?_
  clear hF
  rintro e Z2 ⟨rfl, R', hst, hk', _, ho', hc'⟩
  have HZ2 : Hid (PlZ w rb R' Z2 ∧ KOk (1 + S.length) R' ∧ openN R'.d = 0 ∧ R'.d.c = cf) := ⟨PlZ.next HZ1.out.2.1 HZ1.out.2.2.1 hst, hk', ho', hc'⟩
  clear hst hk' ho' hc' HZ1
  go_wp2
  go_ret
  obtain ⟨⟨o2, v2, g1, g2, g3⟩, g4, g5, g6⟩ := HZ2.out
  exact ⟨rb, o2, v2, R', rfl, g1, g4, g5, g6, g2, g3⟩
end Go.Proofs.Ytlbmcdoldnajoab
namespace Go.Proofs.Ytlbmcdoldnajoab
/-- does the job n, run over m, do what the desk told? -/
def RM.sameB (R : RM) (n : Nat) (m : List (Int × Int)) : Bool :=
  decide (runErr (R.tk n).steps m R.c.fuel = 0) && (decide ((R.d.job n).told = runTold (R.tk n).steps m R.c.fuel) && decide ((R.d.job n).state = runSt (R.tk n).steps m R.c.fuel))
/-- pivotkeep's 'ordered', of k jobs -/
def RM.ordB (R : RM) : Nat → List Nat → List (Int × Int) → Bool
  | 0, _, m => decide (m = R.d.map)
  | k + 1, l, m => (List.range l.length).any fun i => R.sameB (l.getD i 0) m && R.ordB k (l.eraseIdx i) (runMap (R.tk (l.getD i 0)).steps m R.c.fuel)
theorem perm_idx : ∀ {l : List Nat} {q : Nat}, q < l.length → l.Perm (l.getD q 0 :: l.eraseIdx q)
  | [], _, h => absurd h (Nat.not_lt_zero _)
  | a :: r, 0, _ => by simp
  | a :: r, q + 1, h => by
    have ih := perm_idx (l := r) (q := q) (by simpa using h)
    have e : (a :: r).getD (q + 1) 0 = r.getD q 0 := by simp [List.getD]
    rw [e, List.eraseIdx_cons_succ]
    exact (ih.cons a).trans (List.Perm.swap _ _ _)
theorem ord_true {R : RM} (h : KInv R) : R.ordB R.order.length R.order [] = true := by
  obtain ⟨σ, hp, hm, hs⟩ := h.inv.g.serial
  have hc := h.inv.conf
  have hlt : ∀ i ∈ σ, i < R.d.goods.length := fun i hi => List.mem_range.1 (hp.mem_iff.1 hi)
  have key : ∀ (post pre : List Nat) (l : List Nat), σ = pre ++ post → l.Perm (post.map fun i => (gAt R.d.goods i).ticket) → R.ordB l.length l (listOf (chainMap R.d.goods pre)) = true := by
    intro post
    induction post with
    | nil =>
      intro pre l hσ hl
      have : l = [] := by simpa using hl
      subst this
      rw [List.append_nil] at hσ
      show decide (_ = _) = true
      rw [← hσ, hm]
      exact decide_eq_true rfl
    | cons i post ih =>
      intro pre l hσ hl
      have hi : i < R.d.goods.length := hlt i (by rw [hσ]; simp)
      obtain ⟨k, hk⟩ : ∃ k, l.length = k + 1 := ⟨post.length, by rw [hl.length_eq]; simp⟩
      rw [hk]
      obtain ⟨h1, h2⟩ := hs pre i post hσ
      obtain ⟨g1, g2, g3⟩ := h.inv.g.gjob i hi
      obtain ⟨c1, c2⟩ := chain_list h.inv.g.goods (τ := pre) (fun j hj => hlt j (by rw [hσ]; simp [hj]))
      have hst : (R.tk (gAt R.d.goods i).ticket).steps = R.d.gL i := h.steps _ g1
      have hjb : jobB (R.d.gL i) = true := (h.inv.jobs _ g1).1
      have hfu : R.c.fuel = R.d.c.fuel := by rw [h.conf]
      have hrf := run_facts (l := R.d.gL i) (ml := listOf (chainMap R.d.goods pre)) (f := (R.d.c.fuel : Int)) hjb c2 (by omega) (by omega)
      have hmo : runMo (R.d.gL i) (listOf (chainMap R.d.goods pre)) (R.d.c.fuel : Int) = R.d.gX i := by
        unfold runMo
        rw [c1, Int.toNat_natCast, h1]
      rw [hmo, c1, h2] at hrf
      obtain ⟨q, hq, hqe⟩ : ∃ q, q < l.length ∧ l.getD q 0 = (gAt R.d.goods i).ticket := by
        have : (gAt R.d.goods i).ticket ∈ l := hl.mem_iff.2 (by simp)
        obtain ⟨q, hq, e⟩ := List.getElem_of_mem this
        exact ⟨q, hq, by simp [List.getD, hq, e]⟩
      show ((List.range l.length).any fun i => _) = true
      rw [List.any_eq_true]
      refine ⟨q, List.mem_range.2 hq, ?_⟩
      rw [hqe, hst, hfu]
      have hlen : (l.eraseIdx q).length = k := by rw [List.length_eraseIdx_of_lt hq, hk]; rfl
      have hrest := ih (pre ++ [i]) (l.eraseIdx q) (by rw [hσ]; simp) (by
        have hx := (perm_idx hq).symm.trans hl
        rw [hqe, List.map_cons] at hx
        exact hx.cons_inv)
      rw [hlen] at hrest
      rw [hrf.2.2.2.2, hrest, Bool.and_true]
      unfold RM.sameB
      rw [hst, hfu, hrf.1, hrf.2.2.2.1, hrf.2.2.1, g2, g3]
      simp
  have e : ([] : List (Int × Int)) = listOf (chainMap R.d.goods []) := by
    unfold chainMap listOf valK
    simp
  rw [e]
  refine key σ [] R.order rfl ?_
  rw [h.order, goods_map]
  exact (hp.map _).symm
end Go.Proofs.Ytlbmcdoldnajoab

namespace Go.Proofs.Ytlbmcdoldnajoab
open Go.RowKit
theorem conf_box {W : World} {k : Nat} {a b c d : Int} {t : TypeId} (h : W.heap[k]? = some (.cells #[.int .i64 a, .int .i64 b, .int .i64 c, .int .i64 d] t (0, 0))) :
    W.cell? ⟨k, 0, none⟩ = some (.int .i64 a) ∧ W.cell? ⟨k, 1, none⟩ = some (.int .i64 b) ∧ W.cell? ⟨k, 2, none⟩ = some (.int .i64 c) ∧ W.cell? ⟨k, 3, none⟩ = some (.int .i64 d) ∧ k < W.heap.size :=
  ⟨by rw [blk_cell h]; rfl, by rw [blk_cell h]; rfl, by rw [blk_cell h]; rfl, by rw [blk_cell h]; rfl, blk_lt h⟩
theorem PairsV.grow {W W' : World} {v : Value} {l : List (Int × Int)} (h : PairsV W W.heap.size v l) (hb : Below W.heap.size W W') : PairsV W' W'.heap.size v l := PairsV.wide (h.below hb (Nat.le_refl _)) hb.size
section
variable {o : Nat → Option Nat} {Z : World} {rb : Nat} {R : RM} {o1 : Nat → Option Nat} {v1 : KV} {mv : Value} {ml : List (Int × Int)} {ob : Nat} {st : Int} {tv : Value} {tl : List Int} {L an : Nat} {nl : List (Int × Int)} {X W : World} {ta aa : Option Addr} {tc ac : Nat}
theorem box_out (X : World) : (X.alloc outO).heap[X.heap.size]? = some (.cells #[.int .i64 0, .slice none 0 0, .int .i64 0] 37 (0, 0)) := heap_alloc_new _ _
end
end Go.Proofs.Ytlbmcdoldnajoab
namespace Go.Proofs.Ytlbmcdoldnajoab
theorem Try.own : ownKnob Try.prog.godebug = none := by kernel_rfl
theorem Try.laidOut : laidOutB Try.prog = true := by kernel_rfl
end Go.Proofs.Ytlbmcdoldnajoab
namespace Go.Proofs.Ytlbmcdoldnajoab
open Go.RowKit Go.Deep
theorem bulk_one {H : Type} (d : DataW H) : 1 ≤ Rows.uptoBulk d := by
  cases d with
  | lit l => cases l <;> simp [Rows.uptoBulk]
  | _ => simp [Rows.uptoBulk]
theorem bulk_mem {H : Type} {d : DataW H} : ∀ {l : List (DataW H)}, d ∈ l → Rows.uptoBulk d ≤ Rows.uptoBulkAll l
  | x :: r, h => by
    rw [Rows.uptoBulkAll]
    rcases List.mem_cons.1 h with rfl | h
    · omega
    · have := bulk_mem h; omega
theorem bulk_len {H : Type} : ∀ l : List (DataW H), l.length ≤ Rows.uptoBulkAll l
  | [] => by simp
  | x :: r => by
    have h1 := bulk_len r
    have h2 := bulk_one x
    rw [Rows.uptoBulkAll, List.length_cons]
    omega
theorem bulk_elems {H : Type} (el sp : List (DataW H)) : Rows.uptoBulkAll el ≤ Rows.uptoBulk (.slice el sp) := by rw [Rows.uptoBulk]; omega
theorem bulk_parts {H : Type} (ps : List (DataW H)) : Rows.uptoBulkAll ps ≤ Rows.uptoBulk (.agg ps) := by rw [Rows.uptoBulk]; omega
theorem Try.cellsConfB : Try.prog.cellsOf 23 = 4 := by kernel_rfl
theorem Try.cellsSc : Try.prog.cellsOf 50 = 3 := by kernel_rfl
theorem Try.cellsIntsB : Try.prog.cellsOf 32 = 1 := by kernel_rfl
section
variable {H : Type} {enc : TypeId × Value → H} {w : World} {base : Nat} {spare : Nat → Bool} {held : Bool}
set_option maxRecDepth 100000 in
theorem open_confB {fuel : Nat} {cs : List Value} {x : DataW H × List MemPlace} (h : DataW.trod enc Try.prog w base spare held fuel 23 cs = some x) :
    ∃ a b c d : Int, cs = [.int .i64 a, .int .i64 b, .int .i64 c, .int .i64 d] ∧ i64B a ∧ i64B b ∧ i64B c ∧ i64B d := by
  obtain ⟨xs, k, _, _, hlen, hxl, hf⟩ := DataW.trod_struct Try.underlying23 h
  rw [Try.cellsConfB] at hlen
  match xs, hxl, cs, hlen with
  | [y0, y1, y2, y3], _, [v0, v1, v2, v3], _ =>
    have g0 := hf 0 _ rfl
    have g1 := hf 1 _ rfl
    have g2 := hf 2 _ rfl
    have g3 := hf 3 _ rfl
    simp [Try.cellsInt] at g0 g1 g2 g3
    obtain ⟨a, e0, _, w0⟩ := DataW.trod_int Try.underlying3 g0
    obtain ⟨b, e1, _, w1⟩ := DataW.trod_int Try.underlying3 g1
    obtain ⟨c, e2, _, w2⟩ := DataW.trod_int Try.underlying3 g2
    obtain ⟨d, e3, _, w3⟩ := DataW.trod_int Try.underlying3 g3
    simp at e0 e1 e2 e3
    subst e0 e1 e2 e3
    exact ⟨a, b, c, d, rfl, i64B_wf w0, i64B_wf w1, i64B_wf w2, i64B_wf w3⟩
set_option maxRecDepth 100000 in
/-- one step of a script, out of its three cells -/
theorem open_sc {fuel : Nat} {cs : List Value} {x : DataW H × List MemPlace} (h : DataW.trod enc Try.prog w base spare held fuel 50 cs = some x) (hx : Rows.uptoBulk x.1 ≤ 1048576) :
    ∃ s : Sc, cs = [.int .i64 s.k, .int .i64 s.n, s.lv] ∧ i64B s.k ∧ i64B s.n ∧ (∀ y ∈ s.xs, i64B y) ∧ IntsV w s.lv s.xs ∧ ∀ ao n cap, s.lv = .slice ao n cap → n ≤ cap := by
  obtain ⟨ys, k, _, hxe, hlen, hxl, hf⟩ := DataW.trod_struct Try.underlying50 h
  rw [Try.cellsSc] at hlen
  match ys, hxl, cs, hlen with
  | [y0, y1, y2], _, [v0, v1, v2], _ =>
    have g0 := hf 0 _ rfl
    have g1 := hf 1 _ rfl
    have g2 := hf 2 _ rfl
    simp [Try.cellsInt, Try.cellsIntsB] at g0 g1 g2
    obtain ⟨a, e0, _, w0⟩ := DataW.trod_int Try.underlying3 g0
    obtain ⟨b, e1, _, w1⟩ := DataW.trod_int Try.underlying3 g1
    simp at e0 e1
    subst e0 e1
    obtain ⟨l, l1, l2, l3⟩ := open_ints g2
    have hl : l.length ≤ 1048576 := by
      rcases l3 with rfl | ⟨el, sp, he, hel⟩
      · simp
      · have h1 := bulk_len el
        have h2 := bulk_elems el sp
        rw [← he] at h2
        have h3 : Rows.uptoBulk y2.1 ≤ Rows.uptoBulkAll [y0.1, y1.1, y2.1] := bulk_mem (by simp)
        have h4 := bulk_parts [y0.1, y1.1, y2.1]
        rw [hxe] at hx
        have hx : Rows.uptoBulk (.agg [y0.1, y1.1, y2.1]) ≤ 1048576 := hx
        omega
    exact ⟨⟨a, b, v2, l⟩, rfl, i64B_wf w0, i64B_wf w1, l1, l2 (by omega), open_room Try.underlying32 g2⟩
set_option maxRecDepth 100000 in
theorem open_script {fuel : Nat} {v : Value} {x : DataW H × List MemPlace} (h : DataW.trod enc Try.prog w base spare held fuel 24 [v] = some x) (hx : Rows.uptoBulk x.1 ≤ 1048576) :
    ∃ S : List Sc, ScrAt w.heap.size w v S ∧ S.length ≤ 1048576 := by
  rcases open_slice Try.underlying24 h with ⟨hc, _⟩ | ⟨a, len, cap, m, n, D, Pl, hc, hb, hl, hm, hmm, hxe, hall⟩
  · simp at hc
    exact ⟨[], ⟨⟨none, 0, hc, Or.inl rfl⟩, fun s hs => by cases hs⟩, by simp⟩
  · simp at hc
    have hlm : len ≤ m := by rw [hmm]; split <;> omega
    rw [hxe] at hx
    have hx : Rows.uptoBulk (.slice ((List.range len).map D) ((List.range (m - len)).map fun j => D (len + j))) ≤ 1048576 := hx
    have hel := bulk_elems ((List.range len).map D) ((List.range (m - len)).map fun j => D (len + j))
    haveI : Inhabited Sc := ⟨sc0⟩
    obtain ⟨S, hS⟩ := choose_lt (n := len) (p := fun i (s : Sc) => (∀ j, j < 3 → w.cell? ((a.add (i * 3)).add j) = [Value.int .i64 s.k, .int .i64 s.n, s.lv][j]?) ∧ i64B s.k ∧ i64B s.n ∧ (∀ y ∈ s.xs, i64B y) ∧ IntsV w s.lv s.xs ∧ ∀ ao n cap, s.lv = .slice ao n cap → n ≤ cap) (fun i hi => by
      obtain ⟨cs, h1, h2⟩ := hall i (by omega)
      rw [Try.cellsSc] at h1
      obtain ⟨_, _, hcell⟩ := World.cells?_some h1
      have hbi : Rows.uptoBulk (D i) ≤ Rows.uptoBulkAll ((List.range len).map D) := bulk_mem (List.mem_map.2 ⟨i, List.mem_range.2 hi, rfl⟩)
      obtain ⟨s, rfl, h3⟩ := open_sc h2 (by show Rows.uptoBulk (D i) ≤ _; omega)
      exact ⟨s, hcell, h3⟩)
    have hlen : ((List.range len).map S).length = len := by simp
    have hll : len ≤ 1048576 := by
      have := bulk_len ((List.range len).map D)
      rw [List.length_map, List.length_range] at this
      omega
    refine ⟨(List.range len).map S, ⟨⟨some a, cap, by rw [hlen]; exact hc, ?_⟩, fun s hs => ?_⟩, by rw [hlen]; exact hll⟩
    · by_cases h0 : len = 0
      · left; subst h0; rfl
      · right
        obtain ⟨b, off, spot⟩ := a
        have hz := (hS 0 (by omega)).1 0 (by omega)
        simp [Addr.add] at hz
        have hspot : spot = none := by simpa using World.cell?_spot hz
        subst hspot
        refine ⟨b, off, rfl, World.block_lt_of_cell? w _ hz, fun i hi => ?_⟩
        rw [hlen] at hi
        have e : ((List.range len).map S).getD i sc0 = S i := by simp [List.getD, hi]
        rw [e]
        have q := (hS i hi).1
        simp only [WideShapes.add_plain] at q
        have q0 := q 0 (by omega)
        have q1 := q 1 (by omega)
        have q2 := q 2 (by omega)
        simp only [Nat.add_zero] at q0 q1 q2
        exact ⟨q0, q1, q2⟩
    · obtain ⟨i, hi, rfl⟩ := List.mem_map.1 hs
      obtain ⟨_, a1, a2, a3, a4, a5⟩ := hS i (List.mem_range.1 hi)
      exact ⟨a1, a2, a3, fun W hW => a4.below hW, a5⟩
end
end Go.Proofs.Ytlbmcdoldnajoab
