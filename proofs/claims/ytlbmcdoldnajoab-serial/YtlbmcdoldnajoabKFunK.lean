import Derived.Test.YtlbmcdoldnajoabKFunI

namespace Go.Proofs.Ytlbmcdoldnajoab
open Go.RowKit
def kv0 (am n : Nat) : KV := ⟨nilV, nilV, .slice (some ⟨am, 0, none⟩) n n, [], [], []⟩
theorem made_ints (n : Nat) : madeCells (Value.int .i64 0).cells (n * 1) = ((List.replicate n 0).map natV).toArray := by
  have h := madeCells_rep [.int .i64 0] n 1 rfl (by decide)
  have e : (List.replicate n [Value.int .i64 0]).flatten = (List.replicate n 0).map natV := by
    rw [List.map_replicate]
    induction n with
    | zero => rfl
    | succ n ih => rw [List.replicate_succ, List.replicate_succ, List.flatten_cons, ih (madeCells_rep _ _ _ rfl (by decide))]; rfl
  rw [e] at h
  rw [← h]
  rfl
/-- the run as begin makes it -/
theorem kp0 {B : Nat} {W : World} {xb : Nat} {cf : ConfM} (hw : cf.workers ≤ 4) (hd : PDd (fun k => B ≤ k) W xb (desk0 cf)) (hB : B ≤ W.heap.size) :
    ∃ o, KP o ((W.alloc (.cells (madeCells (Value.int .i64 0).cells (cf.workers * 1)) 3)).alloc (.cells (runC (run0 cf xb) (kv0 W.heap.size cf.workers)).toArray 34)) (W.heap.size + 1) (run0 cf xb) (kv0 W.heap.size cf.workers) ∧ ∀ k, o k ≠ none → B ≤ k := by
  refine ⟨fun k => if k = W.heap.size + 1 then some 0 else if k = W.heap.size then some 3 else if B ≤ k then some 4 else none, ?_, fun k hk => ?_⟩
  · have hbel : Below W.heap.size W ((W.alloc (.cells (madeCells (Value.int .i64 0).cells (cf.workers * 1)) 3)).alloc (.cells (runC (run0 cf xb) (kv0 W.heap.size cf.workers)).toArray 34)) := ((Below.refl _ _).alloc (Nat.le_refl _) _).alloc (by simp) _
    exact { blk := fun _ => ⟨by simp, new1E _ _ _⟩
            tasks := fun _ => ⟨World.ownsRow_nil _ _ _ _, fun k hk => by cases hk⟩
            order := fun _ => ⟨World.ownsRow_nil _ _ _ _, fun k hk => by cases hk⟩
            at_ := fun _ => by
              show Row _ 3 _ 3 1 (.slice (some ⟨W.heap.size, 0, none⟩) cf.workers cf.workers) (List.replicate cf.workers 0).length ((List.replicate cf.workers 0).map natV)
              rw [List.length_replicate]
              refine ⟨⟨by simp, Or.inr ⟨W.heap.size, cf.workers, _, rfl, Nat.zero_le _, new0E _ _ _, Nat.le_refl _, (by unfold maxLen; omega), ?_, ?_⟩⟩, fun k hk => ?_⟩
              · rw [made_ints]; simp
              · rw [made_ints]; simp
              · injection hk with hk
                have hk : W.heap.size = k := hk
                subst hk
                simp
            desk := fun _ => hd.keep (R := fun _ => False) (Fr.of_below hbel) (fun _ _ h => h) (fun k hk hf => by
              have hf : B ≤ k := hf
              rw [if_neg (by omega), if_neg (by omega), if_pos hf])
            tb := fun i hi => absurd hi (Nat.not_lt_zero _)
            st := fun i hi => absurd hi (Nat.not_lt_zero _)
            fo := fun i hi => absurd hi (Nat.not_lt_zero _)
            bl := rfl
            sl := rfl
            fl := rfl }
  · simp only at hk
    by_cases e1 : k = W.heap.size + 1
    · omega
    · by_cases e2 : k = W.heap.size
      · omega
      · rw [if_neg e1, if_neg e2] at hk
        by_cases e3 : B ≤ k
        · exact e3
        · rw [if_neg e3] at hk; exact absurd rfl hk
/-- what begin hands back: the run at block rb -/
def BegP (cf : ConfM) (w : World) (e : Ending) (w' : World) : Prop := ∃ rb xb o v, e = .returned (ptrV rb) ∧ KP o w' rb (run5 cf xb 5) v ∧ (∀ k, o k ≠ none → w.heap.size ≤ k) ∧ Below w.heap.size w w'
/-- where begin stands behind the making of the run -/
def BegZ (w : World) (rb xb : Nat) (R : RM) (Z : World) : Prop := ∃ o v, KP o Z rb R v ∧ (∀ k, o k ≠ none → w.heap.size ≤ k) ∧ Below w.heap.size w Z ∧ R.xb = xb
theorem BegZ.next {w : World} {rb xb : Nat} {R' : RM} {Z Z' : World} {o : Nat → Option Nat} (ho : ∀ k, o k ≠ none → w.heap.size ≤ k) (hb : Below w.heap.size w Z) (hx : R'.xb = xb) (hs : KStp o Z rb R' Z') : BegZ w rb xb R' Z' := by
  obtain ⟨o', v', h1, h2, h3⟩ := hs
  refine ⟨fun k => if k < Z'.heap.size then o' k else none, v', h1.own (fun k hk => if_pos hk), fun k hk => ?_, hb.trans (h3.below (fun k hk => ho k hk.some) hb.size), hx⟩
  by_cases hl : k < Z'.heap.size
  · simp only at hk
    rw [if_pos hl] at hk
    by_cases hz : k < Z.heap.size
    · rw [h2 k hz] at hk; exact ho k hk
    · have := hb.size; omega
  · simp only at hk
    rw [if_neg hl] at hk
    exact absurd rfl hk
theorem sayR_xb (R : RM) (l : List St) : (R.sayR l).xb = R.xb := by unfold RM.sayR; split <;> rfl
theorem pickR_xb (R : RM) (i : Nat) : (R.pickR i).xb = R.xb := by
  unfold RM.pickR RM.pickN
  split
  · rfl
  · split
    · rfl
    · split <;> rfl
theorem run5_xb (c : ConfM) (xb : Nat) : ∀ k, (run5 c xb k).xb = xb
  | 0 => sayR_xb _ _
  | k + 1 => by rw [run5, pickR_xb, run5_xb c xb k]
set_option maxRecDepth 100000 in
set_option maxHeartbeats 1000000 in
theorem begin_k (a b c d : Int) (w : World) (ha : i64B a) (hb : i64B b) (hc : i64B c) (hd : i64B d) :
    Calls Try.prog 11 #[confV a b c d] w fun e w' => BegP (fitM a b c d) w e w' := by
  have hok := fit_ok a b c d
  have hF := fun W => fit_k a b c d W ha hb hc hd
  generalize fitM a b c d = cf at *
  have HF : Hid (∀ W, Calls Try.prog 26 #[confV a b c d] W fun e w' => e = .returned (confV (cf.workers : Int) (cf.queue : Int) (cf.fuel : Int) (cf.patience : Int)) ∧ Below W.heap.size W w') := hF
  have HOk : Hid (((1 ≤ cf.workers ∧ cf.workers ≤ 4) ∧ (1 ≤ cf.queue ∧ cf.queue ≤ 8) ∧ (1 ≤ cf.fuel ∧ cf.fuel ≤ 200) ∧ cf.patience ≤ 5) ∧ 3 ≤ cf.fuel) := hok
  have HCB : Hid (confB cf.workers cf.queue cf.fuel cf.patience = true) := by
    show _ = _
    unfold confB
    have := hok.1
    simp only [Bool.and_eq_true, decide_eq_true_eq]
    omega
  have hn4 := hok.1.1.2
  clear hok hF ha hb hc hd
  unfold confV at *
  go_enter Try.func11, Try.ntmps11
  go_wp2_with fail
  refine (HF.out _).mono ?_
  rintro e W1 ⟨rfl, hb1⟩
  have HB1 : Hid (Below w.heap.size w W1) := ((Below.refl _ _).alloc (Nat.le_refl _) _).trans (hb1.mono (by simp))
  clear hb1 HF
  go_wp2_with fail
  refine name_calls (p := fun X => Below w.heap.size w X ∧ X.heap[W1.heap.size]? = some (.cells #[.int .i64 (cf.workers : Int), .int .i64 (cf.queue : Int), .int .i64 (cf.fuel : Int), .int .i64 (cf.patience : Int)] 23 (0, 0))) ⟨HB1.out.trans (((Below.refl _ _).alloc (Nat.le_refl _) _).mono HB1.out.size), heap_alloc_new _ _⟩ ?_
  rintro X ⟨hX, hbox⟩
  generalize W1.heap.size = db at hbox ⊢
  clear HB1
  clear W1
  have HX : Hid (Below w.heap.size w X ∧ X.heap[db]? = some (.cells #[.int .i64 (cf.workers : Int), .int .i64 (cf.queue : Int), .int .i64 (cf.fuel : Int), .int .i64 (cf.patience : Int)] 23 (0, 0))) := ⟨hX, hbox⟩
  clear hX hbox
  refine (kitP.new cf X HCB.out).mono ?_
  rintro e W2 ⟨xb, rfl, hd, hb2⟩
  have HD : Hid (PDd (fun k => w.heap.size ≤ k) W2 xb (desk0 cf) ∧ Below w.heap.size w W2) := ⟨kitP.mono hd (fun k hk hf => by have hf : X.heap.size ≤ k := hf; have := HX.out.1.size; show w.heap.size ≤ k; omega), HX.out.1.trans (hb2.mono HX.out.1.size)⟩
  have hbox2 := (hb2.block _ (blk_lt HX.out.2)).trans HX.out.2
  have d0 : W2.cell? ⟨db, 0, none⟩ = some (.int .i64 (cf.workers : Int)) := by rw [blk_cell hbox2]; rfl
  have d1 : W2.cell? ⟨db, 1, none⟩ = some (.int .i64 (cf.queue : Int)) := by rw [blk_cell hbox2]; rfl
  have d2 : W2.cell? ⟨db, 2, none⟩ = some (.int .i64 (cf.fuel : Int)) := by rw [blk_cell hbox2]; rfl
  have d3 : W2.cell? ⟨db, 3, none⟩ = some (.int .i64 (cf.patience : Int)) := by rw [blk_cell hbox2]; rfl
  have hdl := blk_lt hbox2
  have hmk := make_any Try.underlying32 Try.infoInt cf.workers (by omega) (by decide)
  obtain ⟨o0, hkp0, ho0⟩ := kp0 hn4 HD.out.1 HD.out.2.size
  have HZ : Hid (BegZ w (W2.heap.size + 1) xb (run0 cf xb) ((W2.alloc (.cells (madeCells (Value.int .i64 0).cells (cf.workers * 1)) 3)).alloc (.cells (runC (run0 cf xb) (kv0 W2.heap.size cf.workers)).toArray 34)).drew) := ⟨o0, _, hkp0.below ((Below.refl _ _).drew), ho0, (((HD.out.2.alloc HD.out.2.size _).alloc (by simp; have := HD.out.2.size; omega) _).drew), rfl⟩
  clear hd hb2 hbox2 HX hkp0 ho0
  unfold ptrV
  obtain ⟨mc, hmc⟩ : ∃ mc, mc = madeCells (Value.int .i64 0).cells (cf.workers * 1) := ⟨_, rfl⟩
  rw [← hmc] at hmk HZ
  clear hmc
  go_wp2
  go_region
  refine name_x (p := fun Z => BegZ w (W2.heap.size + 1) xb (run0 cf xb) Z) HZ.out ?_
  clear HZ HD d0 d1 d2 d3 hdl hmk
  generalize W2.heap.size + 1 = rb
  generalize W2.heap.size = am
  clear W2 mc
  rintro Z ⟨o, v, hkp, ho, hbz, _⟩
  have HZ : Hid (KP o Z rb (run0 cf xb) v ∧ (∀ k, o k ≠ none → w.heap.size ≤ k) ∧ Below w.heap.size w Z) := ⟨hkp, ho, hbz⟩
  clear hkp ho hbz
  go_wp2_with fail
  refine (first_own Z).mono ?_
  rintro e Z1 ⟨fb, rfl, hrow, hb1⟩
  have hk1 : KP (grow Z o 6) Z1 rb (run0 cf xb) v := (HZ.out.1.own (own_grow Z o 6)).below hb1
  have hS := say_k (N := 0) (l := fJ) (sv := .slice (some ⟨fb, 0, none⟩) 3 3) hk1 ⟨run0_inv xb HOk.out.1 HOk.out.2, Nat.le_refl _, fun n => by simp [RM.tk, run0, tk0]⟩ (by decide) (by decide) ⟨owns_base hrow (Nat.zero_le _), fun k hk => grow_new (owns_ge hrow hk)⟩
  have HS : Hid (∀ Z2, KStp (grow Z o 6) Z1 rb ((run0 cf xb).sayR fJ) Z2 → BegZ w rb xb (run5 cf xb 0) Z2) := fun Z2 hs =>
    BegZ.next (fun k hk => by
      by_cases hl : k < Z.heap.size
      · rw [own_grow Z o 6 k hl] at hk; exact HZ.out.2.1 k hk
      · have := HZ.out.2.2.size; omega) (HZ.out.2.2.trans (hb1.mono HZ.out.2.2.size)) (run5_xb cf xb 0) hs
  unfold ptrV at hS
  clear hrow hb1 hk1
  go_wp2_with fail
  refine hS.mono ?_
  clear hS
  rintro e Z2 ⟨rfl, hs⟩
  have HB : Hid (BegZ w rb xb (run5 cf xb 0) Z2) := HS.out Z2 hs
  clear hs HS HZ
  go_wp2
  go_loopw [7] (fun i wr => ∃ k : Nat, k ≤ 5 ∧ i = .int .i64 k ∧ BegZ w rb xb (run5 cf xb k) wr) (fun i _ => 5 - (intOf i).toNat)
  case atStart => exact ⟨0, Nat.zero_le _, rfl, HB.out⟩
  case round =>
    obtain ⟨k, hk, rfl, o1, v1, hkp, ho, hbz, _⟩ := hrel
    have HZ : Hid (KP o1 wr rb (run5 cf xb k) v1 ∧ (∀ k, o1 k ≠ none → w.heap.size ≤ k) ∧ Below w.heap.size w wr) := ⟨hkp, ho, hbz⟩
    clear hkp ho hbz HB
    by_cases hlt : k < 5
    · have m1 : (k : Int) < 5 := by omega
      have hP := pick_k HZ.out.1 (run5_ok xb HOk.out.1 HOk.out.2 k).1 (by decide) (i := 0) (by rw [(run5_ok xb HOk.out.1 HOk.out.2 k).2]; have := HOk.out.1; omega)
      unfold ptrV at hP
      go_wp2_with fail
      refine hP.mono ?_
      clear hP
      rintro e Z3 ⟨rfl, hs⟩
      have HB3 : Hid (BegZ w rb xb (run5 cf xb (k + 1)) Z3) := BegZ.next HZ.out.2.1 HZ.out.2.2 (run5_xb cf xb (k + 1)) hs
      clear hs
      go_wp2
      go_roundw
      case rel => exact ⟨k + 1, by omega, by go_num, HB3.out⟩
      case measure => simp [intOf]; omega
    · obtain rfl : k = 5 := by omega
      have hout := run5_out xb HOk.out.1 HOk.out.2
      have hok5 := run5_ok xb HOk.out.1 HOk.out.2 5
      have hlen5 := run5_len xb HOk.out.1 HOk.out.2 5
      have hpl := kitP.poll (fun k => o1 k = some 4) wr xb (run5 cf xb 5).d 1 (by have := HZ.out.1.desk nX; rw [run5_xb] at this; exact this) (by rw [hlen5]; decide) (told_le hok5.1.k.inv)
      have hpe := poll_yes (d := (run5 cf xb 5).d) (i := 0) (by rw [hlen5]; decide)
      have e0 : (run5 cf xb 5).d.jobs.getD 0 jobM0 = (run5 cf xb 5).d.job 1 := rfl
      have e1 : (((0 : Nat) : Int) + 1) = 1 := by omega
      rw [e0, e1, hout.1, hout.2.1, hout.2.2.1] at hpe
      have HMp : Hid (∀ W, Below wr.heap.size wr W → Calls Try.prog 14 #[.pointer (some ⟨xb, 0, none⟩)] W fun e w' => Aftered (mapF (run5 cf xb 5).d.goods) W e w') := fun W hW => kitP.map (fun k => o1 k = some 4) W xb _ (by have := (HZ.out.1.below hW).desk nX; rw [run5_xb] at this; exact this)
      have HLo : Hid (listOf (mapF (run5 cf xb 5).d.goods) = [(3, 7)]) := hout.2.2.2.2.1
      unfold ptrV at hpl
      clear hout hok5 hlen5 e0 e1
      go_wp2_with fail
      refine hpl.mono ?_
      clear hpl
      rintro e W3 ⟨tv, rfl, hrow, hb3⟩
      rw [hpe] at hrow ⊢
      clear hpe
      obtain ⟨tg, tcap, htv, htl, htc⟩ := owns_pos hrow (by decide)
      subst htv
      have t0 : W3.cell? ⟨tg, 0, none⟩ = some (.int .i64 7) := (htc 0 (by decide)).trans rfl
      have HB3 : Hid (Below wr.heap.size wr W3) := hb3
      clear hrow hb3 htc
      go_wp2_with fail
      refine name_calls (p := fun X => Below W3.heap.size W3 X ∧ X.heap[W3.heap.size]? = some (.cells #[.int .i64 3, .slice (some ⟨tg, 0, none⟩) 1 tcap, .int .i64 1] 37 (0, 0))) ⟨(Below.refl _ _).alloc (Nat.le_refl _) _, heap_alloc_new _ _⟩ ?_
      rintro X ⟨hX, hbox⟩
      have t1 := (hX.cell (p := ⟨tg, 0, none⟩) htl).trans t0
      have htl1 := Nat.lt_of_lt_of_le htl hX.size
      have HX : Hid (Below wr.heap.size wr X ∧ X.heap[W3.heap.size]? = some (.cells #[.int .i64 3, .slice (some ⟨tg, 0, none⟩) 1 tcap, .int .i64 1] 37 (0, 0))) := ⟨HB3.out.trans (hX.mono HB3.out.size), hbox⟩
      generalize W3.heap.size = ob at HX ⊢
      clear hX hbox HB3 t0 htl
      clear W3
      refine (HMp.out X HX.out.1).mono ?_
      rintro e W4 ⟨mv, rfl, hrow, hb4⟩
      rw [HLo.out] at hrow
      obtain ⟨mg, mcap, hmv, hml, hmc⟩ := owns_pos hrow (by decide)
      have hmv : mv = .slice (some ⟨mg, 0, none⟩) 1 mcap := hmv
      subst hmv
      have p0 : W4.cell? ⟨mg, 0, none⟩ = some (.int .i64 3) := (hmc 0 (by decide)).trans rfl
      have p1 : W4.cell? ⟨mg, 1, none⟩ = some (.int .i64 7) := (hmc 1 (by decide)).trans rfl
      have t2 := (hb4.cell (p := ⟨tg, 0, none⟩) htl1).trans t1
      obtain ⟨o0, o1', o2, _, ol⟩ := out_box ((hb4.block _ (blk_lt HX.out.2)).trans HX.out.2)
      have HE : Hid (Below wr.heap.size wr W4) := HX.out.1.trans (hb4.mono HX.out.1.size)
      have c8 : W4.cell? ⟨rb, 8, none⟩ = some (.bool true) := (HZ.out.1.below HE.out).cell 8
      clear hrow hmc hb4 t1 htl1 HX HMp HLo
      go_wp2
      go_ret
      exact ⟨rb, xb, o1, v1, rfl, HZ.out.1.below HE.out, HZ.out.2.1, HZ.out.2.2.trans (HE.out.mono HZ.out.2.2.size)⟩
end Go.Proofs.Ytlbmcdoldnajoab
namespace Go.Proofs.Ytlbmcdoldnajoab
open Go.RowKit
/-- a step of a script -/
structure Sc where
  k : Int
  n : Int
  lv : Value
  xs : List Int
def sc0 : Sc := ⟨0, 0, nilV, []⟩
/-- a script that lies below B -/
def ScrAt (B : Nat) (w : World) (v : Value) (S : List Sc) : Prop :=
  (∃ ao cap, v = .slice ao S.length cap ∧ (S = [] ∨ ∃ b off, ao = some ⟨b, off, none⟩ ∧ b < B ∧ ∀ i, i < S.length → w.cell? ⟨b, off + i * 3, none⟩ = some (.int .i64 (S.getD i sc0).k) ∧ w.cell? ⟨b, off + i * 3 + 1, none⟩ = some (.int .i64 (S.getD i sc0).n) ∧ w.cell? ⟨b, off + i * 3 + 2, none⟩ = some (S.getD i sc0).lv)) ∧
  ∀ s ∈ S, i64B s.k ∧ i64B s.n ∧ (∀ x ∈ s.xs, i64B x) ∧ (∀ W, Below B w W → IntsV W s.lv s.xs) ∧ ∀ ao n cap, s.lv = .slice ao n cap → n ≤ cap
theorem ScrAt.below {B : Nat} {w W : World} {v : Value} {S : List Sc} (h : ScrAt B w v S) (hb : Below B w W) : ScrAt B W v S := by
  obtain ⟨⟨ao, cap, hv, h1⟩, h2⟩ := h
  refine ⟨⟨ao, cap, hv, ?_⟩, fun s hs => ?_⟩
  · rcases h1 with h1 | ⟨b, off, e, hl, hc⟩
    · exact Or.inl h1
    · refine Or.inr ⟨b, off, e, hl, fun i hi => ?_⟩
      obtain ⟨c0, c1, c2⟩ := hc i hi
      exact ⟨(hb.cell (p := ⟨b, _, none⟩) hl).trans c0, (hb.cell (p := ⟨b, _, none⟩) hl).trans c1, (hb.cell (p := ⟨b, _, none⟩) hl).trans c2⟩
  · obtain ⟨a1, a2, a3, a4, a5⟩ := h2 s hs
    exact ⟨a1, a2, a3, fun W' hW' => a4 W' (hb.trans hW'), a5⟩
theorem ScrAt.more {B C : Nat} {w : World} {v : Value} {S : List Sc} (h : ScrAt B w v S) (hb : B ≤ C) : ScrAt C w v S := by
  obtain ⟨⟨ao, cap, hv, h1⟩, h2⟩ := h
  refine ⟨⟨ao, cap, hv, ?_⟩, fun s hs => ?_⟩
  · rcases h1 with h1 | ⟨b, off, e, hl, hc⟩
    · exact Or.inl h1
    · exact Or.inr ⟨b, off, e, by omega, hc⟩
  · obtain ⟨a1, a2, a3, a4, a5⟩ := h2 s hs
    exact ⟨a1, a2, a3, fun W' hW' => a4 W' (hW'.mono hb), a5⟩
namespace RM
def stepR (R : RM) (s : Sc) : RM :=
  if s.k = 1 then R.sayR (mkL s.xs 0 16)
  else if s.k = 2 then R.pickR (pickI s.n R.d.c.workers).toNat
  else if s.k = 3 then R.killR (pickI s.n R.d.c.workers).toNat
  else if s.k = 4 then R.cancelR (1 + pickI s.n R.tasks.length).toNat
  else R
def playR (R : RM) (S : List Sc) : RM := S.foldl stepR R
end RM
theorem playR_snoc (R : RM) (S : List Sc) (s : Sc) : R.playR (S ++ [s]) = (R.playR S).stepR s := by simp [RM.playR]
/-- the sizes, and a job at least -/
structure KOk1 (N : Nat) (R : RM) : Prop where
  ok : KOk N R
  one : 1 ≤ R.tasks.length
theorem KOk1.step {N : Nat} {R : RM} (h : KOk1 N R) (s : Sc) : KOk1 (N + 1) (R.stepR s) ∧ (R.stepR s).d.c = R.d.c := by
  have hc := h.ok.k.inv.conf
  have hw : (pickI s.n R.d.c.workers).toNat < R.d.c.workers := by
    have h1 := pickI_lo s.n (n := (R.d.c.workers : Int)) (by omega)
    have h2 := pickI_hi s.n (n := (R.d.c.workers : Int)) (by omega)
    omega
  have hn : R.d.Has (1 + pickI s.n R.tasks.length).toNat := by
    have h0 := h.one
    have h1 := pickI_lo s.n (n := (R.tasks.length : Int)) (by omega)
    have h2 := pickI_hi s.n (n := (R.tasks.length : Int)) (by omega)
    have h3 := h.ok.k.len
    exact ⟨by omega, by omega⟩
  unfold RM.stepR
  split
  · refine ⟨⟨h.ok.say (mkL_job _), ?_⟩, ?_⟩
    · unfold RM.sayR; split
      · exact h.one
      · simp
    · unfold RM.sayR DeskM.submit
      repeat' (first | rfl | split)
  · split
    · refine ⟨⟨(h.ok.pick hw).mono (by omega), ?_⟩, pickR_c _ _⟩
      unfold RM.pickR RM.pickN
      split
      · exact h.one
      · split
        · exact h.one
        · split
          · simp only [List.length_set]; exact h.one
          · exact h.one
    · split
      · refine ⟨⟨h.ok.kill hw, ?_⟩, ?_⟩
        · unfold RM.killR; simp only; split
          · exact h.one
          · simp only [List.length_set]; exact h.one
        · unfold RM.killR DeskM.kill
          simp only
          repeat' (first | rfl | split)
      · split
        · refine ⟨⟨(h.ok.cancel hn).mono (by omega), ?_⟩, ?_⟩
          · unfold RM.cancelR; split
            · exact h.one
            · simp only [List.length_set]; exact h.one
          · unfold RM.cancelR DeskM.cancel
            repeat' (first | rfl | split)
        · exact ⟨⟨h.ok.mono (by omega), h.one⟩, rfl⟩
theorem KOk1.play {N : Nat} {R : RM} (h : KOk1 N R) : ∀ S : List Sc, KOk1 (N + S.length) (R.playR S) ∧ (R.playR S).d.c = R.d.c := by
  intro S
  induction S generalizing N R with
  | nil => exact ⟨h, rfl⟩
  | cons s r ih =>
    obtain ⟨h1, h2⟩ := h.step s
    obtain ⟨h3, h4⟩ := ih h1
    refine ⟨?_, ?_⟩
    · show KOk1 (N + (r.length + 1)) ((R.stepR s).playR r)
      rw [show N + (r.length + 1) = N + 1 + r.length by omega]
      exact h3
    · show ((R.stepR s).playR r).d.c = R.d.c
      rw [h4, h2]
end Go.Proofs.Ytlbmcdoldnajoab
