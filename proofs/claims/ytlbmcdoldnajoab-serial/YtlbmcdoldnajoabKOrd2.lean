import Derived.Test.YtlbmcdoldnajoabKOrd
import Derived.Deep.RegionHeld3

namespace Go.Proofs.Ytlbmcdoldnajoab
open Go.RowKit
section
variable {o1 : Nat → Option Nat} {rb : Nat} {R : RM} {v1 : KV}
/-- behind the Poll, however the box of its outcome came -/
def PoC (o1 : Nat → Option Nat) (rb : Nat) (R : RM) (v1 : KV) (W0 : World) (st tr : Int) (tl : List Int) (L : Nat) (x y : Value) (wx : World) : Prop := ∃ pb ta tc, x = .pointer (some ⟨pb, 0, none⟩) ∧ y = .int .i64 0 ∧ OrX o1 rb R v1 W0 pb st tr (.slice ta L tc) tl wx
def PoY (Y : World) (st tr : Int) (tl : List Int) (L : Nat) (e : Ending) (w' : World) : Prop := ∃ ta tc, e = .returned (.tuple #[.agg #[.int .i64 st, .slice ta L tc, .int .i64 tr], .int .i64 0]) ∧ w'.ownsRow Y.heap.size 3 1 (.slice ta L tc) tl.length (tl.map (Value.int .i64)) ∧ Below Y.heap.size Y w'
def PoV (Y : World) (ta : Option Addr) (tc : Nat) (tl : List Int) (L : Nat) (w' : World) : Prop := w'.ownsRow Y.heap.size 3 1 (.slice ta L tc) tl.length (tl.map (Value.int .i64)) ∧ Below Y.heap.size Y w'
theorem poA {W0 X W : World} {st tr : Int} {tl : List Int} {L : Nat} {ta : Option Addr} {tc : Nat} (hkp : KP o1 X rb R v1) (hb0 : Below W0.heap.size W0 X) (h : PoV X.drew ta tc tl L W) :
    PoC o1 rb R v1 W0 st tr tl L (.pointer (some ⟨W.heap.size, 0, none⟩)) (.int .i64 0) (W.alloc (.cells #[.int .i64 st, .slice ta L tc, .int .i64 tr] 37)) := by
  obtain ⟨h1, h3⟩ := h
  have hb : Below X.heap.size X W := ((Below.refl _ X).drew).trans h3
  have hba : Below W.heap.size W (W.alloc (.cells #[.int .i64 st, .slice ta L tc, .int .i64 tr] 37)) := (Below.refl _ _).alloc (Nat.le_refl _) _
  have hb2 := hb.trans (hba.mono hb.size)
  exact ⟨_, ta, tc, rfl, rfl, hkp.below hb2, hb0.trans (hb2.mono hb0.size), heap_alloc_new _ _, owns_keep (owns_base h1 (Nat.zero_le _)) hba⟩
theorem poB {W0 X W : World} {st tr : Int} {tl : List Int} {L : Nat} {ta : Option Addr} {tc : Nat} (hkp : KP o1 X rb R v1) (hb0 : Below W0.heap.size W0 X) (h : PoV (X.alloc outO).drew ta tc tl L W) :
    PoC o1 rb R v1 W0 st tr tl L (.pointer (some ⟨X.heap.size, 0, none⟩)) (.int .i64 0) (((W.setCell ⟨X.heap.size, 0, none⟩ (.int .i64 st)).setCell ⟨X.heap.size, 1, none⟩ (.slice ta L tc)).setCell ⟨X.heap.size, 2, none⟩ (.int .i64 tr)) := by
  obtain ⟨h1, h3⟩ := h
  have hsz : (X.alloc outO).drew.heap.size = X.heap.size + 1 := by show (X.alloc _).heap.size = _; simp
  have hbox : W.heap[X.heap.size]? = some (.cells #[.int .i64 0, .slice none 0 0, .int .i64 0] 37 (0, 0)) := (h3.block X.heap.size (by omega)).trans (box_out X)
  have hb : Below X.heap.size X W := (((Below.refl _ X).alloc (Nat.le_refl _) _).drew).trans (h3.mono (by omega))
  have hb3 : Below X.heap.size X (((W.setCell ⟨X.heap.size, 0, none⟩ (.int .i64 st)).setCell ⟨X.heap.size, 1, none⟩ (.slice ta L tc)).setCell ⟨X.heap.size, 2, none⟩ (.int .i64 tr)) := ((hb.setCell (Nat.le_refl _) _).setCell (Nat.le_refl _) _).setCell (Nat.le_refl _) _
  have hsame : ∀ g, X.heap.size + 1 ≤ g → (((W.setCell ⟨X.heap.size, 0, none⟩ (.int .i64 st)).setCell ⟨X.heap.size, 1, none⟩ (.slice ta L tc)).setCell ⟨X.heap.size, 2, none⟩ (.int .i64 tr)).heap[g]? = W.heap[g]? := fun g hg => by
    rw [Below.heap_setCell _ _ _ _ (by show g ≠ X.heap.size; omega), Below.heap_setCell _ _ _ _ (by show g ≠ X.heap.size; omega), Below.heap_setCell _ _ _ _ (by show g ≠ X.heap.size; omega)]
  exact ⟨_, ta, tc, rfl, rfl, hkp.below hb3, hb0.trans (hb3.mono hb0.size), set3_out hbox, owns_base (keeps_of_block h1 (fun g hg => hsame g (by have := owns_ge h1 hg; omega))) (Nat.zero_le _)⟩
set_option maxRecDepth 100000 in
set_option maxHeartbeats 4000000 in
theorem ordered_s {N : Nat} (hk : KOk N R) (hN : N ≤ 900000000) {q : Nat} (hqN : q ≤ 900000000) (ih : OrdOK o1 rb R v1 q) : OrdOK o1 rb R v1 (q + 1) := by
  intro l ml lv mv W hl hkp hhas hlv hroom hmv
  have HK : Hid (KOk N R ∧ N ≤ 900000000) := ⟨hk, hN⟩
  have HI : Hid (OrdOK o1 rb R v1 q) := ih
  have H : Hid (KP o1 W rb R v1 ∧ (∀ x ∈ l, R.d.Has x) ∧ PairsV W W.heap.size mv ml ∧ l.length = q + 1) := ⟨hkp, hhas, hmv, hl⟩
  obtain ⟨la, lc, hle, hlm, hcl⟩ := hlv
  rw [List.length_map] at hle hlm hcl
  obtain ⟨n, hn⟩ : ∃ n, n = l.length := ⟨_, rfl⟩
  have HN : Hid (n = l.length) := hn
  rw [← hn] at hle hlm hcl
  subst hle
  have hnc : n ≤ lc := hroom _ _ _ rfl
  have hn0 : 0 < n := by omega
  rcases hcl with hcl | ⟨lb, off, e, hlb, hcl⟩
  · rw [List.map_eq_nil_iff] at hcl
    rw [hcl] at hl
    cases hl
  subst e
  have HC : Hid ((∀ i, i < l.length → W.cell? ⟨lb, off + i, none⟩ = some (.int .i64 ((l.getD i 0 : Nat) : Int))) ∧ lb < W.heap.size) := ⟨fun i hi => by
    rw [hcl i (by rw [hn]; exact hi)]
    simp [List.getD, hi], hlb⟩
  obtain ⟨ma, mc, hme, _⟩ := hmv
  obtain ⟨mn, hmn⟩ : ∃ mn, mn = ml.length := ⟨_, rfl⟩
  rw [← hmn] at hme
  subst hme
  have HM : Hid (PairsV W W.heap.size (.slice ma mn mc) ml) := H.out.2.2.1
  have HQ : Hid (n = q + 1 ∧ l.length = q + 1) := ⟨by omega, hl⟩
  have m0 : ¬ (n : Int) = 0 := by omega
  have hn63 : n ≤ 900000001 := by omega
  unfold ptrV
  clear hk hN ih hl hkp hhas hroom hlm hlb hcl hn hmn
  go_enter Try.func7, Try.ntmps7
  have hb0 : ((n : Int) == 0) = false := beq_eq_false_iff_ne.2 m0
  go_wp2
  clear hb0
  go_loopw [8] (fun x wr => ∃ i : Nat, i ≤ n ∧ x = .int .i64 i ∧ Below W.heap.size W wr ∧ ∀ j, j < i → OrT R l ml q j = false) (fun x _ => n - (intOf x).toNat)
  case atStart => exact ⟨0, Nat.zero_le _, rfl, Below.refl _ _, fun j hj => absurd hj (Nat.not_lt_zero _)⟩
  case round =>
    obtain ⟨i, hi, rfl, hbw, hno⟩ := hrel
    have HB : Hid (Below W.heap.size W wr) := hbw
    have HNo : Hid (∀ j, j < i → OrT R l ml q j = false) := hno
    clear hbw hno
    by_cases hlt : i < n
    · have m1 : (i : Int) < (n : Int) := by omega
      have hil : i < l.length := by rw [← HN.out]; exact hlt
      have hhas := H.out.2.1 (l.getD i 0) (by simp [List.getD, hil])
      obtain ⟨t, ht⟩ : ∃ t, l.getD i 0 = t + 1 := ⟨l.getD i 0 - 1, by have := hhas.1; omega⟩
      rw [ht] at hhas
      have HT : Hid (l.getD i 0 = t + 1 ∧ R.d.Has (t + 1)) := ⟨ht, hhas⟩
      have s0 : wr.cell? ⟨lb, off + i, none⟩ = some (.int .i64 ((t : Int) + 1)) := by
        rw [HB.out.cell (p := ⟨lb, off + i, none⟩) HC.out.2, HC.out.1 i hil, ht]
        rfl
      have hkp := H.out.1.below HB.out
      have c0 : wr.cell? ⟨rb, 0, none⟩ = some (.pointer (some ⟨R.xb, 0, none⟩)) := hkp.cell 0
      have htj : t < R.d.jobs.length := by have := hhas.2; omega
      have hpe := poll_yes (d := R.d) (i := t) htj
      have e0 : R.d.jobs.getD t jobM0 = R.d.job (t + 1) := rfl
      rw [e0] at hpe
      have HTl : Hid ((R.d.job (t + 1)).told.length ≤ 1000) := told_le HK.out.1.k.inv t htj
      obtain ⟨st, hst⟩ : ∃ st, st = (R.d.job (t + 1)).state := ⟨_, rfl⟩
      obtain ⟨tl, htl⟩ : ∃ tl, tl = (R.d.job (t + 1)).told := ⟨_, rfl⟩
      obtain ⟨tr, htr⟩ : ∃ tr : Int, tr = ((R.d.job (t + 1)).tries : Int) := ⟨_, rfl⟩
      rw [← hst, ← htl, ← htr] at hpe
      rw [← htl] at HTl
      obtain ⟨fu, hfu⟩ : ∃ fu, fu = R.c.fuel := ⟨_, rfl⟩
      have HFu : Hid (fu = R.c.fuel) := hfu
      obtain ⟨s2, hs2⟩ : ∃ x, x = runSt (R.tk (t + 1)).steps ml fu := ⟨_, rfl⟩
      obtain ⟨t2, ht2⟩ : ∃ x, x = runTries (R.tk (t + 1)).steps ml fu := ⟨_, rfl⟩
      obtain ⟨f2, hf2⟩ : ∃ x, x = runErr (R.tk (t + 1)).steps ml fu := ⟨_, rfl⟩
      obtain ⟨tl2, htl2⟩ : ∃ x, x = runTold (R.tk (t + 1)).steps ml fu := ⟨_, rfl⟩
      obtain ⟨nl, hnl⟩ : ∃ x, x = runMap (R.tk (t + 1)).steps ml fu := ⟨_, rfl⟩
      have HRn : Hid (s2 = runSt (R.tk (t + 1)).steps ml fu ∧ t2 = runTries (R.tk (t + 1)).steps ml fu ∧ f2 = runErr (R.tk (t + 1)).steps ml fu ∧ tl2 = runTold (R.tk (t + 1)).steps ml fu ∧ nl = runMap (R.tk (t + 1)).steps ml fu) := ⟨hs2, ht2, hf2, htl2, hnl⟩
      have HSm : Hid (R.sameB (t + 1) ml = (decide (f2 = 0) && (decide (tl = tl2) && decide (st = s2)))) := by
        show R.sameB (t + 1) ml = _
        unfold RM.sameB
        rw [← hfu, ← hf2, ← htl2, ← hs2, ← htl, ← hst]
      have HNl : Hid (nl.length ≤ 16) := by rw [hnl]; exact runMap_len _ _ _
      have HT2 : Hid (tl2.length ≤ 1000) := by rw [htl2]; exact runTold_few (by rw [hfu, HK.out.1.k.conf]; exact HK.out.1.k.inv.conf.2.2.1.2)
      have hwr : IntKind.i64.wrap ((t : Int) + 1 - 1) = (t : Int) := by rw [IntKind.wrap_i64]; have := HK.out.1.len; have := HK.out.1.k.len; have := HK.out.2; omega
      have hwk : IntKind.i64.wrap (t : Int) = (t : Int) := by rw [IntKind.wrap_i64]; have := HK.out.1.len; have := HK.out.1.k.len; have := HK.out.2; omega
      clear hs2 ht2 hf2 htl2 hnl hst htl htr hfu e0 hkp hhas ht hil
      obtain ⟨L, hL⟩ : ∃ L, L = tl.length := ⟨_, rfl⟩
      have HL : Hid (L = tl.length) := hL
      have HPo : Hid (∀ Y, Below wr.heap.size wr Y → Calls Try.prog 16 #[.pointer (some ⟨R.xb, 0, none⟩), .int .i64 ((t : Int) + 1)] Y fun e w' => PoY Y st tr tl L e w') := fun Y hY => by
        refine (kitP.poll (fun k => o1 k = some 4) Y R.xb R.d ((t : Int) + 1) (((H.out.1.below HB.out).below hY).desk nX) (by have := HK.out.1.len; have := HK.out.1.k.len; have := HK.out.2; omega) (told_le HK.out.1.k.inv)).mono ?_
        rintro e W1 ⟨tv, rfl, ho, hb⟩
        rw [hpe] at ho ⊢
        simp only at ho ⊢
        obtain ⟨ta, tc, rfl⟩ := owns_form ho
        rw [← hL]
        refine ⟨ta, tc, rfl, ?_, hb⟩
        rw [← hL] at ho
        rw [← hL]
        exact ho
      have hrl : rb < wr.heap.size := World.block_lt_of_cell? wr _ c0
      have hlbl : lb < wr.heap.size := World.block_lt_of_cell? wr _ s0
      have HA : Hid (Below wr.heap.size wr wr.drew) := (Below.refl _ _).drew
      have HBo : Hid (Below wr.heap.size wr (wr.alloc outO).drew) := ((Below.refl _ _).alloc (Nat.le_refl _) _).drew
      have HS2 : Hid (∀ Y, Below wr.heap.size wr Y → Y.cell? ⟨rb, 0, none⟩ = some (.pointer (some ⟨R.xb, 0, none⟩)) ∧ Y.cell? ⟨lb, off + i, none⟩ = some (.int .i64 ((t : Int) + 1))) := fun Y hY => ⟨(hY.cell (p := ⟨rb, 0, none⟩) hrl).trans c0, (hY.cell (p := ⟨lb, off + i, none⟩) hlbl).trans s0⟩
      have n0 := World.new_ne wr _ s0
      have n1 := World.new_ne wr _ c0
      have HKw : Hid (KP o1 wr rb R v1) := H.out.1.below HB.out
      clear hL hpe
      go_wp2
      go_cut [9, 10] (fun x y wx => PoC o1 rb R v1 W st tr tl L x y wx)
      case first =>
        go_region_held3 (fun w' => w'.cell? ⟨rb, 0, none⟩ = some (.pointer (some ⟨R.xb, 0, none⟩)) ∧ w'.cell? ⟨lb, off + i, none⟩ = some (.int .i64 ((t : Int) + 1))) (go_keep) (first | (go_at_call 16; refine (HPo.out _ HA.out).mono ?_; rintro e W5 ⟨tva, tvc, rfl, hX5⟩; have HW5 : Hid (PoV wr.drew tva tvc tl L W5) := hX5; obtain ⟨k0, k1⟩ := HS2.out W5 (HA.out.trans hX5.2); clear hX5) | (go_at_call 16; refine (HPo.out _ HBo.out).mono ?_; rintro e W5 ⟨tva, tvc, rfl, hX5⟩; have HW5 : Hid (PoV (wr.alloc outO).drew tva tvc tl L W5) := hX5; obtain ⟨k0, k1⟩ := HS2.out W5 (HBo.out.trans (hX5.2.mono HBo.out.size)); obtain ⟨b0, b1, b2, bf, bl⟩ := out_box ((hX5.2.block wr.heap.size (by show _ < (wr.alloc _).heap.size; simp)).trans (box_out wr)); clear hX5))
        all_goals
          go_wp2_with fail
          go_meet
          first | exact poA HKw.out HB.out HW5.out | exact poB HKw.out HB.out HW5.out
      case rest =>
      clear HPo HA HBo HKw HS2 c0 s0 hrl hlbl n0 n1
      obtain ⟨ob, tva, tvc, rfl, rfl, hX⟩ := hcut
      generalize wc = X at hX ⊢
      have HX : Hid (OrX o1 rb R v1 W ob st tr (.slice tva L tvc) tl X) := hX
      have hkt : t < R.tasks.length := by have := HT.out.2.2; rw [HK.out.1.k.len]; omega
      obtain ⟨gt, tcap, tb, htp⟩ := hX.kp.tkPl (j := t) hkt
      obtain ⟨T, hT⟩ : ∃ T, T = R.tasks.length := ⟨_, rfl⟩
      have c5 := htp.c5
      rw [← hT] at c5
      have cp := htp.cell
      obtain ⟨sa, sc, hsv⟩ := owns_form (hX.kp.st t hkt nX).1
      obtain ⟨sn, hsn⟩ : ∃ sn, sn = (R.tasks.getD t tk0).steps.length := ⟨_, rfl⟩
      rw [← hsn] at hsv
      have cs : X.cell? ⟨tb, 0, none⟩ = some (.slice sa sn sc) := by rw [← hsv]; exact htp.tcell 0
      have c3 : X.cell? ⟨rb, 3, none⟩ = some (.int .i64 (fu : Int)) := by rw [HFu.out]; exact hX.kp.cell 3
      have s0 : X.cell? ⟨lb, off + i, none⟩ = some (.int .i64 ((t : Int) + 1)) := by
        rw [hX.bel.cell (p := ⟨lb, off + i, none⟩) HC.out.2, HC.out.1 i (by rw [← HN.out]; exact hlt), HT.out.1]
        rfl
      have mt1 : (t : Int) < (T : Int) := by omega
      have mt0 : (0 : Int) ≤ (t : Int) := by omega
      obtain ⟨an, han⟩ : ∃ an, an = nl.length := ⟨_, rfl⟩
      have HAn : Hid (an = nl.length) := han
      obtain ⟨L2, hL2⟩ : ∃ L2, L2 = tl2.length := ⟨_, rfl⟩
      have HL2 : Hid (L2 = tl2.length) := hL2
      have HRun : Hid (∀ Y, Below X.heap.size X Y → Calls Try.prog 8 #[.slice sa sn sc, .slice ma mn mc, .int .i64 (fu : Int)] Y fun e w' => OrY Y s2 t2 f2 tl2 L2 an nl e w') := fun Y hY => by
        have hXY := HX.out.below hY
        have hS : StepsV Y (.slice sa sn sc) (R.tk (t + 1)).steps := by
          rw [← hsv]
          exact stepsV_own (hXY.kp.st t hkt nX).1
        refine (run_ok (.slice sa sn sc) (.slice ma mn mc) (R.tk (t + 1)).steps ml fu Y hS (HM.out.grow hXY.bel)).mono ?_
        rintro e W8 ⟨tv2, av2, rfl, h1, h2, hb8⟩
        obtain ⟨r1, r2, r3, r4, r5⟩ := HRn.out
        rw [← r1, ← r2, ← r3]
        rw [← r4] at h1
        rw [← r5] at h2
        obtain ⟨tva2, tvc2, rfl⟩ := owns_form h1
        obtain ⟨ava2, avc2, rfl⟩ := owns_form h2
        rw [← HL2.out, ← HAn.out]
        refine ⟨tva2, tvc2, ava2, avc2, rfl, ?_, ?_, hb8⟩
        · rw [HL2.out]; exact h1
        · rw [HAn.out]; exact h2
      have hrl : rb < X.heap.size := hX.kp.lt
      have hgl : gt < X.heap.size := World.block_lt_of_cell? X _ cp
      have htbl : tb < X.heap.size := World.block_lt_of_cell? X _ cs
      have hlbl : lb < X.heap.size := World.block_lt_of_cell? X _ s0
      have n0 := World.new_ne X _ s0
      have n1 := World.new_ne X _ c5
      have n2 := World.new_ne X _ cp
      have n3 := World.new_ne X _ cs
      have n4 := World.new_ne X _ c3
      have HS4 : Hid (∀ W, Below X.heap.size X W → W.cell? ⟨lb, off + i, none⟩ = some (.int .i64 ((t : Int) + 1)) ∧ W.cell? ⟨rb, 5, none⟩ = some (.slice (some ⟨gt, 0, none⟩) T tcap) ∧ W.cell? ⟨gt, t, none⟩ = some (.pointer (some ⟨tb, 0, none⟩)) ∧ W.cell? ⟨tb, 0, none⟩ = some (.slice sa sn sc) ∧ W.cell? ⟨rb, 3, none⟩ = some (.int .i64 (fu : Int))) := fun W hW => ⟨(hW.cell (p := ⟨lb, off + i, none⟩) hlbl).trans s0, (hW.cell (p := ⟨rb, 5, none⟩) hrl).trans c5, (hW.cell (p := ⟨gt, t, none⟩) hgl).trans cp, (hW.cell (p := ⟨tb, 0, none⟩) htbl).trans cs, (hW.cell (p := ⟨rb, 3, none⟩) hrl).trans c3⟩
      have HA : Hid (Below X.heap.size X X.drew) := (Below.refl _ _).drew
      have HBo : Hid (Below X.heap.size X (X.alloc outO).drew) := ((Below.refl _ _).alloc (Nat.le_refl _) _).drew
      clear hX htp hkt hsn hsv han hT hL2
      go_wp2
      go_cut [11, 12, 13] (fun x y z wx => OrC o1 rb R v1 W ob st tr (.slice tva L tvc) tl s2 t2 f2 tl2 L2 an nl x y z wx)
      case first =>
        go_region_held3 (fun w' => w'.cell? ⟨lb, off + i, none⟩ = some (.int .i64 ((t : Int) + 1)) ∧ w'.cell? ⟨rb, 5, none⟩ = some (.slice (some ⟨gt, 0, none⟩) T tcap) ∧ w'.cell? ⟨gt, t, none⟩ = some (.pointer (some ⟨tb, 0, none⟩)) ∧ w'.cell? ⟨tb, 0, none⟩ = some (.slice sa sn sc) ∧ w'.cell? ⟨rb, 3, none⟩ = some (.int .i64 (fu : Int))) (go_keep) (first | (go_at_call 8; refine (HRun.out _ HA.out).mono ?_; rintro e W8 ⟨tva2, tvc2, ava2, avc2, rfl, hX8⟩; have HW8 : Hid (OrV X.drew tva2 tvc2 ava2 avc2 tl2 L2 an nl W8) := hX8; obtain ⟨k0, k1, k2, k3, k4⟩ := HS4.out W8 (HA.out.trans hX8.2.2); clear hX8) | (go_at_call 8; refine (HRun.out _ HBo.out).mono ?_; rintro e W8 ⟨tva2, tvc2, ava2, avc2, rfl, hX8⟩; have HW8 : Hid (OrV (X.alloc outO).drew tva2 tvc2 ava2 avc2 tl2 L2 an nl W8) := hX8; obtain ⟨k0, k1, k2, k3, k4⟩ := HS4.out W8 (HBo.out.trans (hX8.2.2.mono HBo.out.size)); obtain ⟨b0, b1, b2, bf, bl⟩ := out_box ((hX8.2.2.block X.heap.size (by show _ < (X.alloc _).heap.size; simp)).trans (box_out X)); clear hX8))
        all_goals
          go_wp2_with fail
          go_meet
          first | exact orA HX.out HNl.out HW8.out | exact orB HX.out HNl.out HW8.out
      case rest =>
        clear HRun HA HBo HX HS4 c3 cs cp c5 s0 hrl hgl htbl hlbl n0 n1 n2 n3 n4
        obtain ⟨pb, tva2, tvc2, ava2, avc2, rfl, rfl, rfl, hX8, hpb, ho8, hp8⟩ := hcut
        obtain ⟨b0, b1, b2, _, bl8⟩ := out_box hX8.box
        obtain ⟨q0, q1, q2, _, ql8⟩ := out_box hpb
        have hSO := pivotkeep_sameOutcome_any st tr s2 t2 _ _ tl tl2 wc (intsV_own hX8.told (by have := HTl.out; omega)) (intsV_own ho8 (by have := HT2.out; omega))
        have HV : Hid (OrX o1 rb R v1 W ob st tr (.slice tva L tvc) tl wc ∧ PairsV wc wc.heap.size (.slice ava2 an avc2) nl) := ⟨hX8, hp8⟩
        clear hX8 hpb ho8 hp8
        go_wp2_with fail
        refine hSO.mono ?_
        clear hSO b0 b1 b2 bl8 q0 q1 q2 ql8
        rintro e V2 ⟨rfl, hb⟩
        have HV2 : Hid (OrX o1 rb R v1 W ob st tr (.slice tva L tvc) tl V2 ∧ PairsV V2 V2.heap.size (.slice ava2 an avc2) nl) := ⟨HV.out.1.below hb, HV.out.2.grow hb⟩
        obtain ⟨sm, hsm⟩ : ∃ sm, sm = (decide (tl = tl2) && decide (st = s2)) := ⟨_, rfl⟩
        have HSm2 : Hid (R.sameB (t + 1) ml = (decide (f2 = 0) && sm)) := by rw [hsm]; exact HSm.out
        rw [← hsm]
        clear HV hb hsm HSm
        by_cases hf : f2 = 0 ∧ sm = true
        · obtain ⟨rfl, rfl⟩ := hf
          have HTr : Hid (∀ b, R.ordB q (l.eraseIdx i) nl = b → OrT R l ml q i = b) := fun b hb => by
            unfold OrT
            have e : runMap (R.tk (t + 1)).steps ml R.c.fuel = nl := by rw [← HFu.out]; exact HRn.out.2.2.2.2.symm
            rw [HT.out.1, HSm2.out, e, hb]
            simp
          have HCl : Hid (∀ j, j < l.length → V2.cell? ⟨lb, off + j, none⟩ = some (.int .i64 ((l.getD j 0 : Nat) : Int))) := fun j hj => by
            rw [HV2.out.1.bel.cell (p := ⟨lb, off + j, none⟩) HC.out.2]
            exact HC.out.1 j hj
          go_wp2_with (at_builtin; refine stopL ?_)
          refine ⟨?_⟩
          refine wpList_app_ints (by rfl) _ _ (by rfl) V2.heap.size _ 0 [] (by rfl) (World.ownsRow_nil _ _ _ _) ⟨lb, off, none⟩ i _ (((l.drop 0).take i).map fun x : Nat => Value.int .i64 (x : Int)) (by rfl) ?_ ?_ ?_ ?_ ?_ (Nat.le_refl _) ?_
          · rw [List.length_map, List.length_take, List.length_drop, ← HN.out]; omega
          · exact ints_part HCl.out 0 i (by rw [← HN.out]; omega)
          · intro u hu; obtain ⟨x, _, rfl⟩ := List.mem_map.1 hu; rfl
          · unfold maxLen; omega
          · omega
          intro r1 Y1 hown1 hgrow1
          have HY1 : Hid (Y1.ownsRow V2.heap.size 3 1 r1 i (((l.drop 0).take i).map fun x : Nat => Value.int .i64 (x : Int)) ∧ Below V2.heap.size V2 Y1) := ⟨by rw [Nat.zero_add, List.nil_append] at hown1; exact hown1, (Below.refl _ _).grown hgrow1 (Nat.le_refl _) (fun k hk => by cases hk)⟩
          have HCl1 : Hid (∀ j, j < l.length → Y1.cell? ⟨lb, off + j, none⟩ = some (.int .i64 ((l.getD j 0 : Nat) : Int))) := fun j hj => by
            rw [HY1.out.2.cell (p := ⟨lb, off + j, none⟩) (World.block_lt_of_cell? V2 _ (HCl.out j hj))]
            exact HCl.out j hj
          obtain ⟨ra, rc, hr1⟩ := owns_form HY1.out.1
          subst hr1
          clear hown1 hgrow1
          go_wp2_with (at_builtin; refine stopL ?_)
          all_goals refine ⟨?_⟩
          all_goals (by_cases hcc : lc = i + 1)
          all_goals first | (exfalso; omega; done) | subst hcc | skip
          all_goals refine wpList_app_ints (by rfl) _ _ (by rfl) V2.heap.size _ i _ (by rfl) HY1.out.1 _ _ _ (((l.drop (i + 1)).take (n - (i + 1))).map fun x : Nat => Value.int .i64 (x : Int)) (by rfl) ?_ ?_ ?_ ?_ ?_ HY1.out.2.size ?_
          all_goals first
            | (rw [List.length_map, List.length_take, List.length_drop, ← HN.out]; omega; done)
            | (intro u hu; obtain ⟨x, _, rfl⟩ := List.mem_map.1 hu; rfl; done)
            | (unfold maxLen; omega; done)
            | (omega; done)
            | (exact ints_part HCl1.out (i + 1) (n - (i + 1)) (by rw [← HN.out]; omega); done)
            | (intro j u hu; rw [List.getElem?_eq_none (by rw [List.length_map, List.length_take]; omega)] at hu; cases hu; done)
            | skip
          all_goals
            intro r2 Y2 hown2 hgrow2
            have hrest := ints_rest HN.out hlt hn63 hown2
            have HY2 : Hid (IntsV Y2 r2 ((l.eraseIdx i).map fun x : Nat => (x : Int)) ∧ (∀ ao m cap, r2 = .slice ao m cap → m ≤ cap) ∧ Below V2.heap.size V2 Y2) := ⟨hrest.1, hrest.2, HY1.out.2.grown hgrow2 HY1.out.2.size (fun k hk => owns_ge HY1.out.1 hk)⟩
            obtain ⟨r2a, r2c, hr2⟩ := owns_form hown2
            subst hr2
            clear hown2 hgrow2 hrest
            have hO := HI.out (l.eraseIdx i) nl (.slice r2a (i + (n - (i + 1))) r2c) (.slice ava2 an avc2) Y2 (by rw [List.length_eraseIdx_of_lt (by rw [← HN.out]; exact hlt)]; have := HQ.out.2; omega) (HV2.out.1.kp.below HY2.out.2.2) (fun x hx => H.out.2.1 x (List.mem_of_mem_eraseIdx hx)) HY2.out.1 HY2.out.2.1 (HV2.out.2.grow HY2.out.2.2)
            unfold ptrV at hO
            generalize i + (n - (i + 1)) = rn at *
            go_wp2_with fail
            refine hO.mono ?_
            clear hO
            rintro e Y3 ⟨rfl, hb3⟩
            obtain ⟨ok, hok⟩ : ∃ ok, ok = R.ordB q (l.eraseIdx i) nl := ⟨_, rfl⟩
            have HOk : Hid (OrT R l ml q i = ok) := HTr.out ok hok.symm
            have HE3 : Hid (Below W.heap.size W Y3) := by
              have h1 := HV2.out.1.bel.trans (HY2.out.2.2.mono HV2.out.1.bel.size)
              exact h1.trans (hb3.mono h1.size)
            rw [← hok]
            clear hok hb3
            cases ok
            · have HE2 : Hid (Below W.heap.size W Y3 ∧ ∀ j, j < i + 1 → OrT R l ml q j = false) := ⟨HE3.out, fun j hj => by
                by_cases e : j = i
                · rw [e]; exact HOk.out
                · exact HNo.out j (by omega)⟩
              go_wp2
              go_roundw
              case rel => first | exact ⟨i + 1, by omega, by go_num, HE2.out⟩ | ((repeat apply Exists.intro); exact ⟨⟨i + 1, by omega, by go_num, HE2.out⟩, rfl⟩)
              case measure => simp [intOf]; omega
            · have HE2 : Hid (R.ordB (q + 1) l ml = true) := ord_some (i := i) (by rw [← HN.out]; exact hlt) HOk.out
              go_wp2
              go_ret
              exact ⟨by rw [HE2.out]; rfl, HE3.out⟩
        · have HE : Hid (OrT R l ml q i = false) := by
            show OrT R l ml q i = false
            unfold OrT
            rw [HT.out.1, HSm2.out]
            cases sm
            · simp
            · have : ¬ f2 = 0 := fun e => hf ⟨e, rfl⟩
              simp [this]
          have HE2 : Hid (Below W.heap.size W V2 ∧ ∀ j, j < i + 1 → OrT R l ml q j = false) := ⟨HV2.out.1.bel, fun j hj => by
            by_cases e : j = i
            · rw [e]; exact HE.out
            · exact HNo.out j (by omega)⟩
          rcases (show ¬ f2 = 0 ∨ (f2 = 0 ∧ sm = false) by cases sm; (by_cases e : f2 = 0; exact Or.inr ⟨e, rfl⟩; exact Or.inl e); exact Or.inl (fun e => hf ⟨e, rfl⟩)) with k1 | ⟨k1, k2⟩
          · clear hf
            go_wp2
            go_roundw
            case rel => first | exact ⟨i + 1, by omega, by go_num, HE2.out⟩ | ((repeat apply Exists.intro); exact ⟨⟨i + 1, by omega, by go_num, HE2.out⟩, rfl⟩)
            case measure => simp [intOf]; omega
          · subst k1 k2
            clear hf
            go_wp2
            go_roundw
            case rel => first | exact ⟨i + 1, by omega, by go_num, HE2.out⟩ | ((repeat apply Exists.intro); exact ⟨⟨i + 1, by omega, by go_num, HE2.out⟩, rfl⟩)
            case measure => simp [intOf]; omega
    · obtain rfl : i = n := by omega
      have HE : Hid (R.ordB (q + 1) l ml = false) := ord_none (fun j hj => HNo.out j (by rw [HN.out]; exact hj))
      go_wp2
      go_ret
      exact ⟨by rw [HE.out]; rfl, HB.out⟩
end
end Go.Proofs.Ytlbmcdoldnajoab
