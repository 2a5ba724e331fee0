/- The law's 'mapped', 'polled'. -/
import Derived.Test.YtlbmcdoldnajoaaLawD
namespace Go.Proofs.Ytlbmcdoldnajoaa
open Go.RowKit

set_option maxRecDepth 100000 in
set_option maxHeartbeats 400000 in
theorem mapped_any (K : DeskKit) (Inv : DeskM → Prop) (B : Nat) (own : Nat → Nat) (W : World) (pb : Nat) (dv : Value) (one : Bool) (iv pv : Value) (vs ps : List Value) (ds : List DP) (i : Nat)
    (h : LA K Inv B own W pb dv one iv pv vs ps ds) (hi : i < ds.length) (hps : ps.length ≤ 1000000000000) (hg : (ds.getD i dp0).d.goods.length ≤ 1000000000000) :
    Calls Try.prog 55 #[.pointer (some ⟨pb, 0, none⟩), ptrV (ds.getD i dp0).p] W fun e W' => Said1L K Inv B W pb dv one vs ps ds 0 4 e W' := by
  have H : Hid (LA K Inv B (mine own W.heap.size) W pb dv one iv pv vs ps ds) := h.mine
  have HI : Hid (i < ds.length ∧ (ds.getD i dp0).d.goods.length ≤ 1000000000000 ∧ ps.length ≤ 1000000000000) := ⟨hi, hg, hps⟩
  have c0 := h.cx hi
  have c1 := h.cy hi
  have hpl := blk_lt (h.pr i hi).2
  obtain ⟨t, ht⟩ : ∃ t, t = ds.getD i dp0 := ⟨_, rfl⟩
  have HT : Hid (ds.getD i dp0 = t) := ht.symm
  rw [← ht] at c0 c1 hpl ⊢
  clear h hi hg hps ht
  unfold ptrV
  go_enter Try.func55, Try.ntmps55
  go_wp2_with fail
  refine (K.map _ W t.x t.d (HT.out ▸ H.out.px i HI.out.1)).mono ?_
  rintro e W1 ⟨av, rfl, hav, hb1⟩
  have HA1 : Hid (W1.ownsRow W.heap.size 42 2 av (listOf (mapF t.d.goods)).length (prCells (listOf (mapF t.d.goods)))) := hav
  have HB1 : Hid (Below W.heap.size W W1) := hb1
  have d1 := (hb1.cell (p := ⟨t.p, 1, none⟩) hpl).trans c1
  clear hav hb1 c0 c1
  go_wp2_with fail
  refine (refMap_any _ W1 t.y t.d t.v (HT.out ▸ (H.out.below HB1.out).py i HI.out.1) (HT.out ▸ HI.out.2.1)).mono ?_
  rintro e W2 ⟨bv, rfl, hbv, hb2⟩
  have HA2 : Hid (W2.ownsRow W.heap.size 42 2 av (listOf (mapF t.d.goods)).length (prCells (listOf (mapF t.d.goods)))) := owns_keep HA1.out hb2
  have HC2 : Hid (W2.ownsRow W1.heap.size 42 2 bv (listOf (mapF t.d.goods)).length (prCells (listOf (mapF t.d.goods)))) := hbv
  have HB2 : Hid (Below W.heap.size W W2) := HB1.out.trans (hb2.mono HB1.out.size)
  clear hbv hb2 d1 HA1
  go_wp2_with fail
  refine (pivotlaw_samePairs_any _ _ W2.heap.size W2.heap.size (listOf (mapF t.d.goods)) (listOf (mapF t.d.goods)) W2 (pairsV_own HA2.out (by have := listOf_len (mapF t.d.goods); omega)) (pairsV_own HC2.out (by have := listOf_len (mapF t.d.goods); omega))).mono ?_
  rintro e W3 ⟨rfl, hb3⟩
  simp only [decide_true]
  have HA3 : Hid (W3.ownsRow W.heap.size 42 2 av (listOf (mapF t.d.goods)).length (prCells (listOf (mapF t.d.goods)))) := owns_keep HA2.out hb3
  have HB3 : Hid (Below W.heap.size W W3) := HB2.out.trans (hb3.mono HB2.out.size)
  clear hb3 HA2 HC2
  go_wp2_with fail
  have H3 : Hid (LA K Inv B (mine own W.heap.size) W3 pb dv one iv pv vs ps ds) := H.out.below HB3.out
  refine (keepPairs_any B W3 pb dv one iv pv vs ps av _ _ (by have := HI.out.2.2; omega) H3.out.lw (owns_base HA3.out H.out.size) (by have := listOf_len (mapF t.d.goods); omega) (H.out.lw.freshP HA3.out (Nat.le_refl _))).mono ?_
  rintro e W4 hk
  obtain ⟨rfl, pv', ps', hL, hlen, hb4⟩ := H3.out.keptP HB3.out.size HA3.out hk
  have HL : Hid (LA K Inv B (mine own W.heap.size) W4 pb dv one iv pv' vs ps' ds ∧ ps'.length = ps.length + 4 ∧ Below B W W4) := ⟨hL, hlen, (HB3.out.mono H.out.size).trans hb4⟩
  clear hk hL hlen hb4
  go_wp2
  go_ret
  exact ⟨rfl, _, _, _, _, _, HL.out.1, rfl, HL.out.2.1, HL.out.2.2⟩

set_option maxRecDepth 100000 in
set_option maxHeartbeats 400000 in
theorem polled_any (K : DeskKit) (Inv : DeskM → Prop) (B : Nat) (own : Nat → Nat) (W : World) (pb : Nat) (dv : Value) (one : Bool) (iv pv : Value) (vs ps : List Value) (ds : List DP) (i : Nat) (n : Int)
    (h : LA K Inv B own W pb dv one iv pv vs ps ds) (hi : i < ds.length) (hvs : vs.length ≤ 1000000000000) (hj : (ds.getD i dp0).d.jobs.length ≤ 1000000000000) (ht : ∀ k, k < (ds.getD i dp0).d.jobs.length → ((ds.getD i dp0).d.jobs.getD k jobM0).told.length ≤ 200) :
    Calls Try.prog 56 #[.pointer (some ⟨pb, 0, none⟩), ptrV (ds.getD i dp0).p, .int .i64 n] W fun e W' => Said1L K Inv B W pb dv one vs ps ds 4 0 e W' := by
  have H : Hid (LA K Inv B (mine own W.heap.size) W pb dv one iv pv vs ps ds) := h.mine
  have HI : Hid (i < ds.length ∧ (ds.getD i dp0).d.jobs.length ≤ 1000000000000 ∧ (∀ k, k < (ds.getD i dp0).d.jobs.length → ((ds.getD i dp0).d.jobs.getD k jobM0).told.length ≤ 200) ∧ vs.length ≤ 1000000000000) := ⟨hi, hj, ht, hvs⟩
  have c0 := h.cx hi
  have c1 := h.cy hi
  have hpl := blk_lt (h.pr i hi).2
  obtain ⟨t, htt⟩ : ∃ t, t = ds.getD i dp0 := ⟨_, rfl⟩
  have HT : Hid (ds.getD i dp0 = t) := htt.symm
  rw [← htt] at c0 c1 hpl ⊢
  have hlen : Hid ((t.d.poll n).2.1.length ≤ 200) := by
    show _ ≤ _
    by_cases hin : 1 ≤ n ∧ n ≤ t.d.jobs.length
    · rw [show n = ((n - 1).toNat : Int) + 1 by omega, poll_yes (by omega)]
      have := ht (n - 1).toNat (by rw [← htt]; omega)
      rw [← htt] at this
      exact this
    · rw [poll_no hin]; simp
  clear h hi hj hvs ht htt
  unfold ptrV
  go_enter Try.func56, Try.ntmps56
  go_wp2_with fail
  refine (K.poll _ W t.x t.d n (HT.out ▸ H.out.px i HI.out.1) (HT.out ▸ HI.out.2.1) (fun k hk => Nat.le_trans (by have := HI.out.2.2.1; rw [HT.out] at this; exact this k hk) (by decide))).mono ?_
  rintro e W1 ⟨av, rfl, hav, hb1⟩
  obtain ⟨aa, ac, rfl⟩ := owns_form hav
  have HA1 : Hid (W1.ownsRow W.heap.size 3 1 (.slice aa (t.d.poll n).2.1.length ac) (t.d.poll n).2.1.length ((t.d.poll n).2.1.map (Value.int .i64))) := hav
  have HB1 : Hid (Below W.heap.size W W1) := hb1
  have d1 := (hb1.cell (p := ⟨t.p, 1, none⟩) hpl).trans c1
  have hpl1 := Nat.lt_of_lt_of_le hpl hb1.size
  clear hav hb1 c0 c1
  obtain ⟨q1, hq1⟩ : ∃ q, q = (t.d.poll n).1 := ⟨_, rfl⟩
  obtain ⟨q2, hq2⟩ : ∃ q, q = (t.d.poll n).2.2.1 := ⟨_, rfl⟩
  obtain ⟨q3, hq3⟩ : ∃ q, q = (t.d.poll n).2.2.2 := ⟨_, rfl⟩
  obtain ⟨ql, hql⟩ : ∃ q, q = (t.d.poll n).2.1 := ⟨_, rfl⟩
  have HQ : Hid (q1 = (t.d.poll n).1 ∧ q2 = (t.d.poll n).2.2.1 ∧ q3 = (t.d.poll n).2.2.2 ∧ ql = (t.d.poll n).2.1) := ⟨hq1, hq2, hq3, hql⟩
  rw [← hq1, ← hq2, ← hq3, ← hql]
  rw [← hql] at HA1 hlen
  clear hq1 hq2 hq3 hql
  go_wp2_with fail
  refine name_calls (p := fun X => Below W1.heap.size W1 X ∧ X.heap[W1.heap.size]? = some (.cells #[.int .i64 q1, .slice aa ql.length ac, .int .i64 q2] 44 (0, 0))) ⟨(Below.refl _ _).alloc (Nat.le_refl _) _, heap_alloc_new _ _⟩ ?_
  rintro X1 ⟨k1, k2⟩
  have HX1 : Hid (Below W.heap.size W X1 ∧ W.heap.size ≤ W1.heap.size) := ⟨HB1.out.trans (k1.mono HB1.out.size), HB1.out.size⟩
  have HAX : Hid (X1.ownsRow W.heap.size 3 1 (.slice aa ql.length ac) ql.length (ql.map (Value.int .i64))) := owns_keep HA1.out k1
  have HBox : Hid (X1.heap[W1.heap.size]? = some (.cells #[.int .i64 q1, .slice aa ql.length ac, .int .i64 q2] 44 (0, 0))) := k2
  have hbo := blk_lt k2
  clear k1 k2 HA1 d1 hpl1
  generalize W1.heap.size = bo at HX1 HBox hbo ⊢
  refine (refPoll_any _ X1 t.y t.d t.v n (HT.out ▸ (H.out.below HX1.out.1).py i HI.out.1) (HT.out ▸ HI.out.2.1) (fun k hk => Nat.le_trans (by have := HI.out.2.2.1; rw [HT.out] at this; exact this k hk) (by decide))).mono ?_
  rintro e W2 ⟨bv, rfl, hbv, hb2⟩
  rw [← HQ.out.1, ← HQ.out.2.1, ← HQ.out.2.2.1]
  rw [← HQ.out.2.2.2] at hbv
  obtain ⟨ba, bc, rfl, hbv'⟩ := id hbv
  clear hbv'
  have HV2 : Hid (IntsV W2 (.slice ba ql.length bc) ql) := hbv
  have HB2 : Hid (Below W.heap.size W W2) := HX1.out.1.trans (hb2.mono HX1.out.1.size)
  have HA2 : Hid (W2.ownsRow W.heap.size 3 1 (.slice aa ql.length ac) ql.length (ql.map (Value.int .i64))) := owns_keep HAX.out hb2
  have HBox2 : Hid (W2.heap[bo]? = some (.cells #[.int .i64 q1, .slice aa ql.length ac, .int .i64 q2] 44 (0, 0))) := (hb2.block _ hbo).trans HBox.out
  have z0 : W2.cell? ⟨bo, 0, none⟩ = some (.int .i64 q1) := by rw [blk_cell HBox2.out]; rfl
  have z1 : W2.cell? ⟨bo, 1, none⟩ = some (.slice aa ql.length ac) := by rw [blk_cell HBox2.out]; rfl
  have z2 : W2.cell? ⟨bo, 2, none⟩ = some (.int .i64 q2) := by rw [blk_cell HBox2.out]; rfl
  have hbo2 := blk_lt HBox2.out
  clear hbv hb2 HAX HBox hbo
  go_wp2_with fail
  refine name_calls (p := fun X => Below W2.heap.size W2 X) ((Below.refl _ _).alloc (Nat.le_refl _) _) ?_
  intro X2 k1
  have HBX2 : Hid (Below W.heap.size W X2) := HB2.out.trans (k1.mono HB2.out.size)
  have HAX2 : Hid (X2.ownsRow W.heap.size 3 1 (.slice aa ql.length ac) ql.length (ql.map (Value.int .i64))) := owns_keep HA2.out k1
  have HVX2 : Hid (IntsV X2 (.slice ba ql.length bc) ql) := HV2.out.below k1
  have y1 : X2.cell? ⟨bo, 1, none⟩ = some (.slice aa ql.length ac) := (k1.cell (p := ⟨bo, 1, none⟩) hbo2).trans z1
  have hbx2 := Nat.lt_of_lt_of_le hbo2 k1.size
  clear k1 z0 z1 z2 HV2 HA2 HBox2
  refine (pivotlaw_sameOutcome_any _ _ _ _ _ _ ql ql X2 (intsV_own HAX2.out (by have := hlen.out; omega)) HVX2.out).mono ?_
  rintro e W3 ⟨rfl, hb3⟩
  simp only [decide_true, Bool.and_self]
  have HB3 : Hid (Below W.heap.size W W3) := HBX2.out.trans (hb3.mono HBX2.out.size)
  have HA3 : Hid (W3.ownsRow W.heap.size 3 1 (.slice aa ql.length ac) ql.length (ql.map (Value.int .i64))) := owns_keep HAX2.out hb3
  have y2 : W3.cell? ⟨bo, 1, none⟩ = some (.slice aa ql.length ac) := (hb3.cell (p := ⟨bo, 1, none⟩) hbx2).trans y1
  clear hb3 y1 HAX2 HVX2
  go_wp2_with fail
  have H3 : Hid (LA K Inv B (mine own W.heap.size) W3 pb dv one iv pv vs ps ds) := H.out.below HB3.out
  refine (keepInts_any B W3 pb dv one iv pv vs ps _ _ _ (by have := HI.out.2.2.2; omega) H3.out.lw (owns_base HA3.out H.out.size) (by have := hlen.out; omega) (H.out.lw.freshI HA3.out (Nat.le_refl _))).mono ?_
  rintro e W4 hk
  obtain ⟨rfl, iv', vs', hL, hln, hb4⟩ := H3.out.keptI HB3.out.size HA3.out hk
  have HL : Hid (LA K Inv B (mine own W.heap.size) W4 pb dv one iv' pv vs' ps ds ∧ vs'.length = vs.length + 4 ∧ Below B W W4) := ⟨hL, hln, (HB3.out.mono H.out.size).trans hb4⟩
  clear hk hL hln hb4
  go_wp2
  go_ret
  exact ⟨rfl, _, _, _, _, _, HL.out.1, HL.out.2.1, rfl, HL.out.2.2⟩

end Go.Proofs.Ytlbmcdoldnajoaa
