import Derived.Test.YtlbmcdoldnajoaaKFunL
import Derived.Test.YtlbmcdoldnajoaaChainP
import Derived.SizedLaws
import Derived.Test.YtlbmcdoldnajoaaKFunK
import Derived.JoinedCond

namespace Go.Proofs.Ytlbmcdoldnajoaa
open Go.RowKit
/-- what played hands back: a run in which all have ended -/
def PlayedP (cf : ConfM) (N : Nat) (w : World) (e : Ending) (w' : World) : Prop := ∃ rb o v R, e = .returned (ptrV rb) ∧ KP o w' rb R v ∧ KOk N R ∧ openN R.d = 0 ∧ R.d.c = cf ∧ (∀ k, o k ≠ none → w.heap.size ≤ k) ∧ Below w.heap.size w w'
/-- where played stands -/
def PlZ (w : World) (rb : Nat) (R : RM) (Z : World) : Prop := ∃ o v, KP o Z rb R v ∧ (∀ k, o k ≠ none → w.heap.size ≤ k) ∧ Below w.heap.size w Z
theorem PlZ.next {w : World} {rb : Nat} {R' : RM} {Z Z' : World} {o : Nat → Option Nat} (ho : ∀ k, o k ≠ none → w.heap.size ≤ k) (hb : Below w.heap.size w Z) (hs : KStp o Z rb R' Z') : PlZ w rb R' Z' := by
  obtain ⟨o', v', h1, h2, h3, _⟩ := BegZ.next (xb := R'.xb) ho hb rfl hs
  exact ⟨o', v', h1, h2, h3⟩
set_option maxRecDepth 100000 in
set_option maxHeartbeats 1000000 in
theorem played_k (a b c d : Int) (w : World) (ha : i64B a) (hb : i64B b) (hc : i64B c) (hd : i64B d) {S : List Sc} (hN : S.length ≤ 800000000) {sv : Value} (hs : ScrAt w.heap.size w sv S) :
    Calls Try.prog 40 #[confV a b c d, sv] w fun e w' => PlayedP (fitM a b c d) (1 + S.length) w e w' := by
  have HBg : Hid (∀ W, Calls Try.prog 32 #[.agg #[.int .i64 a, .int .i64 b, .int .i64 c, .int .i64 d]] W fun e w' => BegP (fitM a b c d) W e w') := fun W => begin_k a b c d W ha hb hc hd
  have hok := fit_ok a b c d
  generalize fitM a b c d = cf at *
  have HOk : Hid (((1 ≤ cf.workers ∧ cf.workers ≤ 4) ∧ (1 ≤ cf.queue ∧ cf.queue ≤ 8) ∧ (1 ≤ cf.fuel ∧ cf.fuel ≤ 200) ∧ cf.patience ≤ 5) ∧ 3 ≤ cf.fuel) := hok
  have HS : Hid (ScrAt w.heap.size w sv S ∧ S.length ≤ 800000000) := ⟨hs, hN⟩
  obtain ⟨⟨ao, cap, hv, _⟩, _⟩ := hs
  obtain ⟨n, hn⟩ : ∃ n, n = S.length := ⟨_, rfl⟩
  rw [← hn] at hv
  subst hv
  unfold confV
  clear ha hb hc hd hok hN hn
  go_enter Try.func40, Try.ntmps40
  go_wp2_with fail
  refine (HBg.out _).mono ?_
  clear HBg
  rintro e Z ⟨rb, xb, o, v, rfl, hkp, ho, hb⟩
  have hbw : Below w.heap.size w (w.alloc (.cells #[.int .i64 a, .int .i64 b, .int .i64 c, .int .i64 d] 34)) := (Below.refl _ _).alloc (Nat.le_refl _) _
  have HZ : Hid (KP o Z rb (run5 cf xb 5) v ∧ (∀ k, o k ≠ none → w.heap.size ≤ k) ∧ Below w.heap.size w Z) := ⟨hkp, fun k hk => Nat.le_trans hbw.size (ho k hk), hbw.trans (hb.mono hbw.size)⟩
  have HK1 : Hid (KOk1 1 (run5 cf xb 5) ∧ (run5 cf xb 5).d.c = cf) := by
    have h5 := run5_ok xb HOk.out.1 HOk.out.2 5
    exact ⟨⟨h5.1, by rw [h5.1.k.len, run5_len xb HOk.out.1 HOk.out.2 5]; exact Nat.le_refl _⟩, h5.2⟩
  clear hkp ho hb hbw
  have hP := play_k (S := S) HZ.out.1 HK1.out.1 (by have := HS.out.2; omega) (HS.out.1.below HZ.out.2.2) HZ.out.2.1 HZ.out.2.2.size
  unfold ptrV at *
  go_wp2_with fail
  refine hP.mono ?_
  clear hP
  rintro e Z1 ⟨rfl, hst⟩
  obtain ⟨hk2, hc2⟩ := HK1.out.1.play S
  rw [HK1.out.2] at hc2
  obtain ⟨o1, v1, h1, h2, h3⟩ := PlZ.next HZ.out.2.1 HZ.out.2.2 hst
  have HZ1 : Hid (KP o1 Z1 rb ((run5 cf xb 5).playR S) v1 ∧ (∀ k, o1 k ≠ none → w.heap.size ≤ k) ∧ Below w.heap.size w Z1 ∧ KOk (1 + S.length) ((run5 cf xb 5).playR S) ∧ ((run5 cf xb 5).playR S).d.c = cf) := ⟨h1, h2, h3, hk2.ok, hc2⟩
  have hF := finish_k (J := fun _ => True) (fun _ _ _ _ _ => trivial) h1 hk2.ok trivial (by have := HS.out.2; omega)
  rw [hc2] at hF
  unfold ptrV at hF
  clear hst hk2 hc2 h1 h2 h3 HZ HK1
  go_wp2_with fail
  refine hF.mono ?_
  clear hF
  rintro e Z2 ⟨rfl, R', hst, hk', _, ho', hc'⟩
  have HZ2 : Hid (PlZ w rb R' Z2 ∧ KOk (1 + S.length) R' ∧ openN R'.d = 0 ∧ R'.d.c = cf) := ⟨PlZ.next HZ1.out.2.1 HZ1.out.2.2.1 hst, hk', ho', hc'⟩
  clear hst hk' ho' hc' HZ1
  go_wp2
  go_ret
  obtain ⟨⟨o2, v2, g1, g2, g3⟩, g4, g5, g6⟩ := HZ2.out
  exact ⟨rb, o2, v2, R', rfl, g1, g4, g5, g6, g2, g3⟩
set_option maxRecDepth 100000 in
set_option maxHeartbeats 1000000 in
theorem partners_walk (a b c d : Int) (w : World) (ha : i64B a) (hb : i64B b) (hc : i64B c) (hd : i64B d) {S : List Sc} (hN : S.length ≤ 800000000) {sv : Value} (hs : ScrAt w.heap.size w sv S) :
    Calls Try.prog 11 #[confV a b c d, sv] w fun e w' => e = .returned (.bool true) ∧ Below w.heap.size w w' := by
  have hbw : Below w.heap.size w (w.alloc (.cells #[.int .i64 a, .int .i64 b, .int .i64 c, .int .i64 d] 34)) := (Below.refl _ _).alloc (Nat.le_refl _) _
  have HPl : Hid (∀ W, W = w.alloc (.cells #[.int .i64 a, .int .i64 b, .int .i64 c, .int .i64 d] 34) → Calls Try.prog 40 #[.agg #[.int .i64 a, .int .i64 b, .int .i64 c, .int .i64 d], sv] W fun e w' => PlayedP (fitM a b c d) (1 + S.length) W e w') := fun W hW => by
    subst hW
    have h2 : ScrAt (w.alloc (.cells #[.int .i64 a, .int .i64 b, .int .i64 c, .int .i64 d] 34)).heap.size (w.alloc (.cells #[.int .i64 a, .int .i64 b, .int .i64 c, .int .i64 d] 34)) sv S := (hs.below hbw).more hbw.size
    exact played_k a b c d _ ha hb hc hd hN h2
  obtain ⟨⟨ao, cap, hv, _⟩, _⟩ := hs
  obtain ⟨n, hn⟩ : ∃ n, n = S.length := ⟨_, rfl⟩
  rw [← hn] at hv
  subst hv
  have HB : Hid (Below w.heap.size w (w.alloc (.cells #[.int .i64 a, .int .i64 b, .int .i64 c, .int .i64 d] 34))) := hbw
  unfold confV
  clear ha hb hc hd hN hn hbw
  go_enter Try.func11, Try.ntmps11
  go_wp2_with fail
  refine (HPl.out _ rfl).mono ?_
  clear HPl
  rintro e Z ⟨rb, o, v, R, rfl, hkp, _, _, _, _, hb⟩
  have c9 : Z.cell? ⟨rb, 9, none⟩ = some (.bool true) := hkp.cell 9
  have HE : Hid (Below w.heap.size w Z) := HB.out.trans (hb.mono HB.out.size)
  unfold ptrV
  clear hkp hb
  go_wp2
  go_ret
  exact ⟨rfl, HE.out⟩
end Go.Proofs.Ytlbmcdoldnajoaa

namespace Go.Proofs.Ytlbmcdoldnajoaa
theorem Try.own : ownKnob Try.prog.godebug = none := by kernel_rfl
theorem Try.laidOut : laidOutB Try.prog = true := by kernel_rfl
end Go.Proofs.Ytlbmcdoldnajoaa

namespace Go.Proofs.Ytlbmcdoldnajoaa
open Go.RowKit Go.Deep
theorem bulk_one {H : Type} (d : DataW H) : 1 ≤ Rows.uptoBulk d := by
  cases d with
  | lit l => cases l <;> simp [Rows.uptoBulk]
  | _ => simp [Rows.uptoBulk]
theorem bulk_mem {H : Type} {d : DataW H} : ∀ {l : List (DataW H)}, d ∈ l → Rows.uptoBulk d ≤ Rows.uptoBulkAll l
  | x :: r, h => by
    rw [Rows.uptoBulkAll]
    rcases List.mem_cons.1 h with rfl | h
    · omega
    · have := bulk_mem h; omega
theorem bulk_len {H : Type} : ∀ l : List (DataW H), l.length ≤ Rows.uptoBulkAll l
  | [] => by simp
  | x :: r => by
    have h1 := bulk_len r
    have h2 := bulk_one x
    rw [Rows.uptoBulkAll, List.length_cons]
    omega
theorem bulk_elems {H : Type} (el sp : List (DataW H)) : Rows.uptoBulkAll el ≤ Rows.uptoBulk (.slice el sp) := by rw [Rows.uptoBulk]; omega
theorem bulk_parts {H : Type} (ps : List (DataW H)) : Rows.uptoBulkAll ps ≤ Rows.uptoBulk (.agg ps) := by rw [Rows.uptoBulk]; omega
theorem Try.cellsConfB : Try.prog.cellsOf 34 = 4 := by kernel_rfl
theorem Try.cellsSc : Try.prog.cellsOf 166 = 3 := by kernel_rfl
theorem Try.cellsIntsB : Try.prog.cellsOf 37 = 1 := by kernel_rfl
section
variable {H : Type} {enc : TypeId × Value → H} {w : World} {base : Nat} {spare : Nat → Bool} {held : Bool}
set_option maxRecDepth 100000 in
theorem open_confB {fuel : Nat} {cs : List Value} {x : DataW H × List MemPlace} (h : DataW.trod enc Try.prog w base spare held fuel 34 cs = some x) :
    ∃ a b c d : Int, cs = [.int .i64 a, .int .i64 b, .int .i64 c, .int .i64 d] ∧ i64B a ∧ i64B b ∧ i64B c ∧ i64B d := by
  obtain ⟨xs, k, _, _, hlen, hxl, hf⟩ := DataW.trod_struct Try.underlying34 h
  rw [Try.cellsConfB] at hlen
  match xs, hxl, cs, hlen with
  | [y0, y1, y2, y3], _, [v0, v1, v2, v3], _ =>
    have g0 := hf 0 _ rfl
    have g1 := hf 1 _ rfl
    have g2 := hf 2 _ rfl
    have g3 := hf 3 _ rfl
    simp [Try.cellsInt] at g0 g1 g2 g3
    obtain ⟨a, e0, _, w0⟩ := DataW.trod_int Try.underlying3 g0
    obtain ⟨b, e1, _, w1⟩ := DataW.trod_int Try.underlying3 g1
    obtain ⟨c, e2, _, w2⟩ := DataW.trod_int Try.underlying3 g2
    obtain ⟨d, e3, _, w3⟩ := DataW.trod_int Try.underlying3 g3
    simp at e0 e1 e2 e3
    subst e0 e1 e2 e3
    exact ⟨a, b, c, d, rfl, i64B_wf w0, i64B_wf w1, i64B_wf w2, i64B_wf w3⟩
set_option maxRecDepth 100000 in
/-- one step of a script, out of its three cells -/
theorem open_sc {fuel : Nat} {cs : List Value} {x : DataW H × List MemPlace} (h : DataW.trod enc Try.prog w base spare held fuel 166 cs = some x) (hx : Rows.uptoBulk x.1 ≤ 1048576) :
    ∃ s : Sc, cs = [.int .i64 s.k, .int .i64 s.n, s.lv] ∧ i64B s.k ∧ i64B s.n ∧ (∀ y ∈ s.xs, i64B y) ∧ IntsV w s.lv s.xs ∧ ∀ ao n cap, s.lv = .slice ao n cap → n ≤ cap := by
  obtain ⟨ys, k, _, hxe, hlen, hxl, hf⟩ := DataW.trod_struct Try.underlying166 h
  rw [Try.cellsSc] at hlen
  match ys, hxl, cs, hlen with
  | [y0, y1, y2], _, [v0, v1, v2], _ =>
    have g0 := hf 0 _ rfl
    have g1 := hf 1 _ rfl
    have g2 := hf 2 _ rfl
    simp [Try.cellsInt, Try.cellsIntsB] at g0 g1 g2
    obtain ⟨a, e0, _, w0⟩ := DataW.trod_int Try.underlying3 g0
    obtain ⟨b, e1, _, w1⟩ := DataW.trod_int Try.underlying3 g1
    simp at e0 e1
    subst e0 e1
    obtain ⟨l, l1, l2, l3⟩ := open_ints g2
    have hl : l.length ≤ 1048576 := by
      rcases l3 with rfl | ⟨el, sp, he, hel⟩
      · simp
      · have h1 := bulk_len el
        have h2 := bulk_elems el sp
        rw [← he] at h2
        have h3 : Rows.uptoBulk y2.1 ≤ Rows.uptoBulkAll [y0.1, y1.1, y2.1] := bulk_mem (by simp)
        have h4 := bulk_parts [y0.1, y1.1, y2.1]
        rw [hxe] at hx
        have hx : Rows.uptoBulk (.agg [y0.1, y1.1, y2.1]) ≤ 1048576 := hx
        omega
    exact ⟨⟨a, b, v2, l⟩, rfl, i64B_wf w0, i64B_wf w1, l1, l2 (by omega), open_room Try.underlying37 g2⟩
set_option maxRecDepth 100000 in
theorem open_script {fuel : Nat} {v : Value} {x : DataW H × List MemPlace} (h : DataW.trod enc Try.prog w base spare held fuel 80 [v] = some x) (hx : Rows.uptoBulk x.1 ≤ 1048576) :
    ∃ S : List Sc, ScrAt w.heap.size w v S ∧ S.length ≤ 1048576 := by
  rcases open_slice Try.underlying80 h with ⟨hc, _⟩ | ⟨a, len, cap, m, n, D, Pl, hc, hb, hl, hm, hmm, hxe, hall⟩
  · simp at hc
    exact ⟨[], ⟨⟨none, 0, hc, Or.inl rfl⟩, fun s hs => by cases hs⟩, by simp⟩
  · simp at hc
    have hlm : len ≤ m := by rw [hmm]; split <;> omega
    rw [hxe] at hx
    have hx : Rows.uptoBulk (.slice ((List.range len).map D) ((List.range (m - len)).map fun j => D (len + j))) ≤ 1048576 := hx
    have hel := bulk_elems ((List.range len).map D) ((List.range (m - len)).map fun j => D (len + j))
    haveI : Inhabited Sc := ⟨sc0⟩
    obtain ⟨S, hS⟩ := choose_lt (n := len) (p := fun i (s : Sc) => (∀ j, j < 3 → w.cell? ((a.add (i * 3)).add j) = [Value.int .i64 s.k, .int .i64 s.n, s.lv][j]?) ∧ i64B s.k ∧ i64B s.n ∧ (∀ y ∈ s.xs, i64B y) ∧ IntsV w s.lv s.xs ∧ ∀ ao n cap, s.lv = .slice ao n cap → n ≤ cap) (fun i hi => by
      obtain ⟨cs, h1, h2⟩ := hall i (by omega)
      rw [Try.cellsSc] at h1
      obtain ⟨_, _, hcell⟩ := World.cells?_some h1
      have hbi : Rows.uptoBulk (D i) ≤ Rows.uptoBulkAll ((List.range len).map D) := bulk_mem (List.mem_map.2 ⟨i, List.mem_range.2 hi, rfl⟩)
      obtain ⟨s, rfl, h3⟩ := open_sc h2 (by show Rows.uptoBulk (D i) ≤ _; omega)
      exact ⟨s, hcell, h3⟩)
    have hlen : ((List.range len).map S).length = len := by simp
    have hll : len ≤ 1048576 := by
      have := bulk_len ((List.range len).map D)
      rw [List.length_map, List.length_range] at this
      omega
    refine ⟨(List.range len).map S, ⟨⟨some a, cap, by rw [hlen]; exact hc, ?_⟩, fun s hs => ?_⟩, by rw [hlen]; exact hll⟩
    · by_cases h0 : len = 0
      · left; subst h0; rfl
      · right
        obtain ⟨b, off, spot⟩ := a
        have hz := (hS 0 (by omega)).1 0 (by omega)
        simp [Addr.add] at hz
        have hspot : spot = none := by simpa using World.cell?_spot hz
        subst hspot
        refine ⟨b, off, rfl, World.block_lt_of_cell? w _ hz, fun i hi => ?_⟩
        rw [hlen] at hi
        have e : ((List.range len).map S).getD i sc0 = S i := by simp [List.getD, hi]
        rw [e]
        have q := (hS i hi).1
        simp only [WideShapes.add_plain] at q
        have q0 := q 0 (by omega)
        have q1 := q 1 (by omega)
        have q2 := q 2 (by omega)
        simp only [Nat.add_zero] at q0 q1 q2
        exact ⟨q0, q1, q2⟩
    · obtain ⟨i, hi, rfl⟩ := List.mem_map.1 hs
      obtain ⟨_, a1, a2, a3, a4, a5⟩ := hS i (List.mem_range.1 hi)
      exact ⟨a1, a2, a3, fun W hW => a4.below hW, a5⟩
end
end Go.Proofs.Ytlbmcdoldnajoaa

namespace Go.Proofs.Ytlbmcdoldnajoaa
open Go.ChangeShapes Go.WideShapes Go.ChangeAt Go.RowKit Go.Deep
set_option maxRecDepth 100000 in
theorem partners_lifted (os : Os) (started : os.Started) (H : Type) (enc : TypeId × Value → H) (F : Stop.Interp) :
    ReturnsInHanded {} Try.checked os 11 .any ((Rows.OpenSpec.upto Rows.partnersSpec).pre6 enc Try.prog Try.f11 Rows.partnersUptoRow.domain false) (((Rows.OpenSpec.upto Rows.partnersSpec).at F).post enc Try.prog Try.f11 false true false false) := by
  refine returnsInHanded_of_cond (C := Try.checked) (s := Rows.OpenSpec.upto Rows.partnersSpec) (k := Rows.uptoSmall) rfl Try.own started (by kernel_rfl) Try.func11
    (OpenSpec.witness (enc := enc) (C := Try.checked) (s := Rows.OpenSpec.upto Rows.partnersSpec) (k := Rows.uptoSmall) rfl false ⟨#[], #[.agg #[.int .i64 1, .int .i64 1, .int .i64 1, .int .i64 1], .slice none 0 0], []⟩ 8 (by kernel_rfl) (by kernel_rfl) (by kernel_rfl)
      (x := ([.agg [.lit (.int .i64 1), .lit (.int .i64 1), .lit (.int .i64 1), .lit (.int .i64 1)], .nil], [], [])) (by kernel_rfl) rfl (by kernel_rfl)) ?_
  intro W base args ds gs before hval0 hW _ hk _
  have hval : ∀ (j : Nat) t v, Try.f11.params[j]? = some t → args[j]? = some v → Value.okWide Try.prog W .any base t v := hval0
  have hW' := hW
  obtain ⟨p, q, hA0, hV, rfl, hfz, hnd⟩ := hW
  have hA : DataW.TrodAll enc Try.prog W 0 (fun _ => true) true Try.f11.params.toList args.toList ds p := hA0
  rw [Try.params11] at hA hval
  obtain ⟨v0, v1, d0, d1, p0, p1, rfl, rfl, rfl, h0, h1⟩ := trodAll_two hA
  obtain ⟨rfl, rfl⟩ := trodVars_none hV
  have hbulk : Rows.uptoBulkAll [d0, d1] ≤ 1048576 := of_decide_eq_true hk
  obtain ⟨cs, rfl, _⟩ := okWide_struct Try.underlying34 (hval 0 34 v0 rfl rfl)
  obtain ⟨a1, len1, cap1, rfl⟩ := okWide_slice Try.underlying80 (hval 1 80 v1 rfl rfl)
  have k0 := h0
  have k1 := h1
  have lt0 : ∀ x ∈ p0, x.block < W.heap.size := by obtain ⟨m, hm⟩ := k0; exact DataW.trod_lt m _ _ _ hm
  have lt1 : ∀ x ∈ p1, x.block < W.heap.size := by obtain ⟨m, hm⟩ := k1; exact DataW.trod_lt m _ _ _ hm
  obtain ⟨a, b, c, d, hcs, ha, hb, hc, hd⟩ : ∃ a b c d : Int, cs = #[.int .i64 a, .int .i64 b, .int .i64 c, .int .i64 d] ∧ i64B a ∧ i64B b ∧ i64B c ∧ i64B d := by
    obtain ⟨fuel, hf⟩ := h0
    obtain ⟨a, b, c, d, h1, h2⟩ := open_confB (cs := cs.toList) (by simpa [Value.cells] using hf)
    exact ⟨a, b, c, d, by rw [← Array.toArray_toList (xs := cs), h1], h2⟩
  obtain ⟨S, hS, hl⟩ : ∃ S : List Sc, ScrAt W.heap.size W (.slice a1 len1 cap1) S ∧ S.length ≤ 1048576 := by
    obtain ⟨fuel, hf⟩ := h1
    exact open_script (v := .slice a1 len1 cap1) (by simpa [Value.cells] using hf) (by have := bulk_mem (d := d1) (l := [d0, d1]) (by simp); show Rows.uptoBulk d1 ≤ _; omega)
  clear hA0 hval0
  subst hcs
  refine (partners_walk a b c d W ha hb hc hd (by omega) hS).mono fun e W' ⟨he, bel⟩ => ?_
  subst he
  exact ⟨_, rfl, _, _, _, [], _, [], hW', trodAll_mk1 (shut_bool Try.underlying4 _), trodAll_mk2 (Below.trod Try.laidOut (by kernel_rfl) (of_decide_eq_true (by kernel_rfl)) k0 bel lt0) (Below.trod Try.laidOut (by kernel_rfl) (of_decide_eq_true (by kernel_rfl)) k1 bel lt1), rfl, bel.frame _, fun h => by cases h⟩
theorem partners_holds : Rows.PartnersUptoSaid :=
  OpenClaim.holds_of_cond 11 Try.f11 rfl rfl rfl rfl rfl rfl rfl ⟨rfl, rfl, rfl, rfl, rfl⟩ rfl rfl rfl rfl rfl (by kernel_rfl) Try.func11 (by kernel_rfl)
    (of_decide_eq_true (by kernel_rfl)) (by unfold Func.isWrapper; rw [if_neg (of_decide_eq_false (by kernel_rfl))]; exact ⟨rfl, rfl⟩)
    (fun os started H enc _ F => partners_lifted os started H enc F)
end Go.Proofs.Ytlbmcdoldnajoaa
