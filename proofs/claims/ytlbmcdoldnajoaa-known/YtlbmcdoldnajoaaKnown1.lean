/- 'Known': the walk. -/
import Derived.Test.YtlbmcdoldnajoaaKnownK
namespace Go.Proofs.Ytlbmcdoldnajoaa
open Go.RowKit

set_option maxRecDepth 100000 in
set_option maxHeartbeats 4000000 in
theorem known_0 (hrun : RunOK) (k : Int) (w : World) (hk : i64B k) (h0 : pickI k 5 = 0) :
    Calls Try.prog 6 #[.int .i64 k] w fun e w' => e = .returned (.bool true) ∧ Below w.heap.size w w' := by
  have HK : Hid (i64B k) := hk
  have HR : Hid RunOK := hrun
  clear hk hrun
  go_enter Try.func6, Try.ntmps6
  go_wp2_with (go_at_call 19; refine (pick_any k 5 _ HK.out (by omega) (by omega)).mono ?_; rintro e w' ⟨rfl, h⟩; obtain rfl := h.symm)
  refine name_calls (p := KnownAt w (.slice (some ⟨w.heap.size, 0, none⟩) 4 4) (.slice none 0 0) (.slice (some ⟨w.heap.size + 1, 0, none⟩) 1 1) (.slice (some ⟨w.heap.size + 1 + 1, 0, none⟩) 1 1) kL0 kM0 kT0 kW0 4 3) ⟨stepsV_blk (new_old (new_old (heap_alloc_new _ _))) _ rfl, pairsV_nil _ _, intsV_blk (new_old (new_1 _ _ _)) _ rfl (by decide), pairsV_blk (new_2 _ _ _ _) _ rfl (by decide), ?_, k0_e0, k0_e1, k0_e2, k0_e3⟩ ?_
  · exact ((((Below.refl _ _).alloc (Nat.le_refl _) _).alloc (by simp <;> omega) _).alloc (by simp <;> omega) _)
  · skip
    rintro X ⟨hs, hm, ht, hw, hb, e0, e1, e2, e3⟩
    have HT : Hid (IntsV X (.slice (some ⟨w.heap.size + 1, 0, none⟩) 1 1) kT0) := ht
    have HW : Hid (PairsV X X.heap.size (.slice (some ⟨w.heap.size + 1 + 1, 0, none⟩) 1 1) kW0) := hw
    have HB : Hid (Below w.heap.size w X) := hb
    refine (HR.out _ _ kL0 kM0 4 X hs hm).mono ?_
    rintro e W1 ⟨tv, av, rfl, h1, h2, h3⟩
    rw [e2] at h1
    rw [e3] at h2
    obtain ⟨ta, tc, rfl⟩ := owns_form h1
    obtain ⟨aa, ac, rfl⟩ := owns_form h2
    have e4 : runTries kL0 kM0 4 = 1 := by simp [runTries, e0]
    rw [e0, e1, e4]
    have H1 : Hid (IntsV W1 (.slice ta kT0.length tc) kT0) := intsV_own h1 (by decide)
    have H2 : Hid (PairsV W1 W1.heap.size (.slice aa kW0.length ac) kW0) := pairsV_own h2 (by decide)
    have H3 : Hid (Below X.heap.size X W1) := h3
    clear hs hm ht hw hb e0 e1 e2 e3 e4 h1 h2 h3
    go_wp2_with fail
    refine name_calls (p := fun Y => Below W1.heap.size W1 Y ∧ Y.heap[W1.heap.size]? = some (.cells #[.int .i64 3, .slice ta kT0.length tc, .int .i64 1] 44 (0, 0))) ⟨(Below.refl _ _).alloc (Nat.le_refl _) _, heap_alloc_new _ _⟩ ?_
    rintro Y ⟨y1, y2⟩
    have HY : Hid (Below W1.heap.size W1 Y) := y1
    have HBo : Hid (Y.heap[W1.heap.size]? = some (.cells #[.int .i64 3, .slice ta kT0.length tc, .int .i64 1] 44 (0, 0))) := y2
    have hz1 := H3.out.size
    have HXY : Hid (Below X.heap.size X Y) := H3.out.trans (y1.mono hz1)
    have hlt := blk_lt y2
    clear y1 y2
    refine (pivotkeep_sameInts_any _ _ kT0 kT0 Y (H1.out.below HY.out) (HT.out.below HXY.out)).mono ?_
    rintro e Y1 ⟨rfl, b1⟩
    simp only [decide_true]
    have HB1 : Hid (Below Y.heap.size Y Y1) := b1
    have hz2 := b1.size
    have hz3 := HY.out.size
    clear b1
    go_wp2_with fail
    refine (pivotkeep_samePairs_any _ _ W1.heap.size X.heap.size kW0 kW0 Y1 ((H2.out.below HY.out (Nat.le_refl _)).below HB1.out hz3) ((HW.out.below HXY.out (Nat.le_refl _)).below HB1.out (by omega))).mono ?_
    rintro e Y2 ⟨rfl, b2⟩
    simp only [decide_true]
    have c0 : Y2.cell? ⟨W1.heap.size, 0, none⟩ = some (.int .i64 3) := by rw [b2.cell (show W1.heap.size < _ from by omega), HB1.out.cell (show W1.heap.size < _ from hlt), blk_cell HBo.out]; rfl
    have c2 : Y2.cell? ⟨W1.heap.size, 2, none⟩ = some (.int .i64 1) := by rw [b2.cell (show W1.heap.size < _ from by omega), HB1.out.cell (show W1.heap.size < _ from hlt), blk_cell HBo.out]; rfl
    have HE : Hid (Below w.heap.size w Y2) := by
      have s := HB.out.size
      exact ((HB.out.trans (HXY.out.mono s)).trans (HB1.out.mono (by omega))).trans (b2.mono (by omega))
    clear b2
    go_wp2
    go_ret
    exact ⟨rfl, HE.out⟩


set_option maxRecDepth 100000 in
set_option maxHeartbeats 4000000 in
theorem known_1 (hrun : RunOK) (k : Int) (w : World) (hk : i64B k) (h0 : pickI k 5 = 1) :
    Calls Try.prog 6 #[.int .i64 k] w fun e w' => e = .returned (.bool true) ∧ Below w.heap.size w w' := by
  have HK : Hid (i64B k) := hk
  have HR : Hid RunOK := hrun
  clear hk hrun
  go_enter Try.func6, Try.ntmps6
  go_wp2_with (go_at_call 19; refine (pick_any k 5 _ HK.out (by omega) (by omega)).mono ?_; rintro e w' ⟨rfl, h⟩; obtain rfl := h.symm)
  refine name_calls (p := KnownAt w (.slice (some ⟨w.heap.size, 0, none⟩) 4 4) (.slice none 0 0) (.slice none 0 0) (.slice none 0 0) kL1 kM1 kT1 kW1 3 5) ⟨stepsV_blk (heap_alloc_new _ _) _ rfl, pairsV_nil _ _, intsV_nil _, pairsV_nil _ _, ?_, k1_e0, k1_e1, k1_e2, k1_e3⟩ ?_
  · exact ((Below.refl _ _).alloc (Nat.le_refl _) _)
  · skip
    rintro X ⟨hs, hm, ht, hw, hb, e0, e1, e2, e3⟩
    have HT : Hid (IntsV X (.slice none 0 0) kT1) := ht
    have HW : Hid (PairsV X X.heap.size (.slice none 0 0) kW1) := hw
    have HB : Hid (Below w.heap.size w X) := hb
    refine (HR.out _ _ kL1 kM1 3 X hs hm).mono ?_
    rintro e W1 ⟨tv, av, rfl, h1, h2, h3⟩
    rw [e2] at h1
    rw [e3] at h2
    obtain ⟨ta, tc, rfl⟩ := owns_form h1
    obtain ⟨aa, ac, rfl⟩ := owns_form h2
    have e4 : runTries kL1 kM1 3 = 1 := by simp [runTries, e0]
    rw [e0, e1, e4]
    have H1 : Hid (IntsV W1 (.slice ta kT1.length tc) kT1) := intsV_own h1 (by decide)
    have H2 : Hid (PairsV W1 W1.heap.size (.slice aa kW1.length ac) kW1) := pairsV_own h2 (by decide)
    have H3 : Hid (Below X.heap.size X W1) := h3
    clear hs hm ht hw hb e0 e1 e2 e3 e4 h1 h2 h3
    go_wp2_with fail
    refine name_calls (p := fun Y => Below W1.heap.size W1 Y ∧ Y.heap[W1.heap.size]? = some (.cells #[.int .i64 5, .slice ta kT1.length tc, .int .i64 1] 44 (0, 0))) ⟨(Below.refl _ _).alloc (Nat.le_refl _) _, heap_alloc_new _ _⟩ ?_
    rintro Y ⟨y1, y2⟩
    have HY : Hid (Below W1.heap.size W1 Y) := y1
    have HBo : Hid (Y.heap[W1.heap.size]? = some (.cells #[.int .i64 5, .slice ta kT1.length tc, .int .i64 1] 44 (0, 0))) := y2
    have hz1 := H3.out.size
    have HXY : Hid (Below X.heap.size X Y) := H3.out.trans (y1.mono hz1)
    have hlt := blk_lt y2
    clear y1 y2
    refine (pivotkeep_sameInts_any _ _ kT1 kT1 Y (H1.out.below HY.out) (HT.out.below HXY.out)).mono ?_
    rintro e Y1 ⟨rfl, b1⟩
    simp only [decide_true]
    have HB1 : Hid (Below Y.heap.size Y Y1) := b1
    have hz2 := b1.size
    have hz3 := HY.out.size
    clear b1
    go_wp2_with fail
    refine (pivotkeep_samePairs_any _ _ W1.heap.size X.heap.size kW1 kW1 Y1 ((H2.out.below HY.out (Nat.le_refl _)).below HB1.out hz3) ((HW.out.below HXY.out (Nat.le_refl _)).below HB1.out (by omega))).mono ?_
    rintro e Y2 ⟨rfl, b2⟩
    simp only [decide_true]
    have c0 : Y2.cell? ⟨W1.heap.size, 0, none⟩ = some (.int .i64 5) := by rw [b2.cell (show W1.heap.size < _ from by omega), HB1.out.cell (show W1.heap.size < _ from hlt), blk_cell HBo.out]; rfl
    have c2 : Y2.cell? ⟨W1.heap.size, 2, none⟩ = some (.int .i64 1) := by rw [b2.cell (show W1.heap.size < _ from by omega), HB1.out.cell (show W1.heap.size < _ from hlt), blk_cell HBo.out]; rfl
    have HE : Hid (Below w.heap.size w Y2) := by
      have s := HB.out.size
      exact ((HB.out.trans (HXY.out.mono s)).trans (HB1.out.mono (by omega))).trans (b2.mono (by omega))
    clear b2
    go_wp2
    go_ret
    exact ⟨rfl, HE.out⟩


set_option maxRecDepth 100000 in
set_option maxHeartbeats 4000000 in
theorem known_2 (hrun : RunOK) (k : Int) (w : World) (hk : i64B k) (h0 : pickI k 5 = 2) :
    Calls Try.prog 6 #[.int .i64 k] w fun e w' => e = .returned (.bool true) ∧ Below w.heap.size w w' := by
  have HK : Hid (i64B k) := hk
  have HR : Hid RunOK := hrun
  clear hk hrun
  go_enter Try.func6, Try.ntmps6
  go_wp2_with (go_at_call 19; refine (pick_any k 5 _ HK.out (by omega) (by omega)).mono ?_; rintro e w' ⟨rfl, h⟩; obtain rfl := h.symm)
  refine name_calls (p := KnownAt w (.slice (some ⟨w.heap.size, 0, none⟩) 6 6) (.slice (some ⟨w.heap.size + 1, 0, none⟩) 2 2) (.slice (some ⟨w.heap.size + 1 + 1 + 1, 0, none⟩) 2 2) (.slice (some ⟨w.heap.size + 1 + 1, 0, none⟩) 2 2) kL2 kM2 kT2 kW2 20 4) ⟨stepsV_blk (new_old (new_old (new_old (heap_alloc_new _ _)))) _ rfl, pairsV_blk (new_old (new_old (new_1 _ _ _))) _ rfl (by decide), intsV_blk (new_3 _ _ _ _ _) _ rfl (by decide), pairsV_blk (new_old (new_2 _ _ _ _)) _ rfl (by decide), ?_, k2_e0, k2_e1, k2_e2, k2_e3⟩ ?_
  · exact (((((Below.refl _ _).alloc (Nat.le_refl _) _).alloc (by simp <;> omega) _).alloc (by simp <;> omega) _).alloc (by simp <;> omega) _)
  · skip
    rintro X ⟨hs, hm, ht, hw, hb, e0, e1, e2, e3⟩
    have HT : Hid (IntsV X (.slice (some ⟨w.heap.size + 1 + 1 + 1, 0, none⟩) 2 2) kT2) := ht
    have HW : Hid (PairsV X X.heap.size (.slice (some ⟨w.heap.size + 1 + 1, 0, none⟩) 2 2) kW2) := hw
    have HB : Hid (Below w.heap.size w X) := hb
    refine (HR.out _ _ kL2 kM2 20 X hs hm).mono ?_
    rintro e W1 ⟨tv, av, rfl, h1, h2, h3⟩
    rw [e2] at h1
    rw [e3] at h2
    obtain ⟨ta, tc, rfl⟩ := owns_form h1
    obtain ⟨aa, ac, rfl⟩ := owns_form h2
    have e4 : runTries kL2 kM2 20 = 1 := by simp [runTries, e0]
    rw [e0, e1, e4]
    have H1 : Hid (IntsV W1 (.slice ta kT2.length tc) kT2) := intsV_own h1 (by decide)
    have H2 : Hid (PairsV W1 W1.heap.size (.slice aa kW2.length ac) kW2) := pairsV_own h2 (by decide)
    have H3 : Hid (Below X.heap.size X W1) := h3
    clear hs hm ht hw hb e0 e1 e2 e3 e4 h1 h2 h3
    go_wp2_with fail
    refine name_calls (p := fun Y => Below W1.heap.size W1 Y ∧ Y.heap[W1.heap.size]? = some (.cells #[.int .i64 4, .slice ta kT2.length tc, .int .i64 1] 44 (0, 0))) ⟨(Below.refl _ _).alloc (Nat.le_refl _) _, heap_alloc_new _ _⟩ ?_
    rintro Y ⟨y1, y2⟩
    have HY : Hid (Below W1.heap.size W1 Y) := y1
    have HBo : Hid (Y.heap[W1.heap.size]? = some (.cells #[.int .i64 4, .slice ta kT2.length tc, .int .i64 1] 44 (0, 0))) := y2
    have hz1 := H3.out.size
    have HXY : Hid (Below X.heap.size X Y) := H3.out.trans (y1.mono hz1)
    have hlt := blk_lt y2
    clear y1 y2
    refine (pivotkeep_sameInts_any _ _ kT2 kT2 Y (H1.out.below HY.out) (HT.out.below HXY.out)).mono ?_
    rintro e Y1 ⟨rfl, b1⟩
    simp only [decide_true]
    have HB1 : Hid (Below Y.heap.size Y Y1) := b1
    have hz2 := b1.size
    have hz3 := HY.out.size
    clear b1
    go_wp2_with fail
    refine (pivotkeep_samePairs_any _ _ W1.heap.size X.heap.size kW2 kW2 Y1 ((H2.out.below HY.out (Nat.le_refl _)).below HB1.out hz3) ((HW.out.below HXY.out (Nat.le_refl _)).below HB1.out (by omega))).mono ?_
    rintro e Y2 ⟨rfl, b2⟩
    simp only [decide_true]
    have c0 : Y2.cell? ⟨W1.heap.size, 0, none⟩ = some (.int .i64 4) := by rw [b2.cell (show W1.heap.size < _ from by omega), HB1.out.cell (show W1.heap.size < _ from hlt), blk_cell HBo.out]; rfl
    have c2 : Y2.cell? ⟨W1.heap.size, 2, none⟩ = some (.int .i64 1) := by rw [b2.cell (show W1.heap.size < _ from by omega), HB1.out.cell (show W1.heap.size < _ from hlt), blk_cell HBo.out]; rfl
    have HE : Hid (Below w.heap.size w Y2) := by
      have s := HB.out.size
      exact ((HB.out.trans (HXY.out.mono s)).trans (HB1.out.mono (by omega))).trans (b2.mono (by omega))
    clear b2
    go_wp2
    go_ret
    exact ⟨rfl, HE.out⟩


set_option maxRecDepth 100000 in
set_option maxHeartbeats 4000000 in
theorem known_3 (hrun : RunOK) (k : Int) (w : World) (hk : i64B k) (h0 : pickI k 5 = 3) :
    Calls Try.prog 6 #[.int .i64 k] w fun e w' => e = .returned (.bool true) ∧ Below w.heap.size w w' := by
  have HK : Hid (i64B k) := hk
  have HR : Hid RunOK := hrun
  clear hk hrun
  go_enter Try.func6, Try.ntmps6
  go_wp2_with (go_at_call 19; refine (pick_any k 5 _ HK.out (by omega) (by omega)).mono ?_; rintro e w' ⟨rfl, h⟩; obtain rfl := h.symm)
  refine name_calls (p := KnownAt w (.slice (some ⟨w.heap.size, 0, none⟩) 5 5) (.slice none 0 0) (.slice (some ⟨w.heap.size + 1, 0, none⟩) 3 3) (.slice none 0 0) kL3 kM3 kT3 kW3 20 3) ⟨stepsV_blk (new_old (heap_alloc_new _ _)) _ rfl, pairsV_nil _ _, intsV_blk (new_1 _ _ _) _ rfl (by decide), pairsV_nil _ _, ?_, k3_e0, k3_e1, k3_e2, k3_e3⟩ ?_
  · exact (((Below.refl _ _).alloc (Nat.le_refl _) _).alloc (by simp <;> omega) _)
  · skip
    rintro X ⟨hs, hm, ht, hw, hb, e0, e1, e2, e3⟩
    have HT : Hid (IntsV X (.slice (some ⟨w.heap.size + 1, 0, none⟩) 3 3) kT3) := ht
    have HW : Hid (PairsV X X.heap.size (.slice none 0 0) kW3) := hw
    have HB : Hid (Below w.heap.size w X) := hb
    refine (HR.out _ _ kL3 kM3 20 X hs hm).mono ?_
    rintro e W1 ⟨tv, av, rfl, h1, h2, h3⟩
    rw [e2] at h1
    rw [e3] at h2
    obtain ⟨ta, tc, rfl⟩ := owns_form h1
    obtain ⟨aa, ac, rfl⟩ := owns_form h2
    have e4 : runTries kL3 kM3 20 = 1 := by simp [runTries, e0]
    rw [e0, e1, e4]
    have H1 : Hid (IntsV W1 (.slice ta kT3.length tc) kT3) := intsV_own h1 (by decide)
    have H2 : Hid (PairsV W1 W1.heap.size (.slice aa kW3.length ac) kW3) := pairsV_own h2 (by decide)
    have H3 : Hid (Below X.heap.size X W1) := h3
    clear hs hm ht hw hb e0 e1 e2 e3 e4 h1 h2 h3
    go_wp2_with fail
    refine name_calls (p := fun Y => Below W1.heap.size W1 Y ∧ Y.heap[W1.heap.size]? = some (.cells #[.int .i64 3, .slice ta kT3.length tc, .int .i64 1] 44 (0, 0))) ⟨(Below.refl _ _).alloc (Nat.le_refl _) _, heap_alloc_new _ _⟩ ?_
    rintro Y ⟨y1, y2⟩
    have HY : Hid (Below W1.heap.size W1 Y) := y1
    have HBo : Hid (Y.heap[W1.heap.size]? = some (.cells #[.int .i64 3, .slice ta kT3.length tc, .int .i64 1] 44 (0, 0))) := y2
    have hz1 := H3.out.size
    have HXY : Hid (Below X.heap.size X Y) := H3.out.trans (y1.mono hz1)
    have hlt := blk_lt y2
    clear y1 y2
    refine (pivotkeep_sameInts_any _ _ kT3 kT3 Y (H1.out.below HY.out) (HT.out.below HXY.out)).mono ?_
    rintro e Y1 ⟨rfl, b1⟩
    simp only [decide_true]
    have HB1 : Hid (Below Y.heap.size Y Y1) := b1
    have hz2 := b1.size
    have hz3 := HY.out.size
    clear b1
    go_wp2_with fail
    refine (pivotkeep_samePairs_any _ _ W1.heap.size X.heap.size kW3 kW3 Y1 ((H2.out.below HY.out (Nat.le_refl _)).below HB1.out hz3) ((HW.out.below HXY.out (Nat.le_refl _)).below HB1.out (by omega))).mono ?_
    rintro e Y2 ⟨rfl, b2⟩
    simp only [decide_true]
    have c0 : Y2.cell? ⟨W1.heap.size, 0, none⟩ = some (.int .i64 3) := by rw [b2.cell (show W1.heap.size < _ from by omega), HB1.out.cell (show W1.heap.size < _ from hlt), blk_cell HBo.out]; rfl
    have c2 : Y2.cell? ⟨W1.heap.size, 2, none⟩ = some (.int .i64 1) := by rw [b2.cell (show W1.heap.size < _ from by omega), HB1.out.cell (show W1.heap.size < _ from hlt), blk_cell HBo.out]; rfl
    have HE : Hid (Below w.heap.size w Y2) := by
      have s := HB.out.size
      exact ((HB.out.trans (HXY.out.mono s)).trans (HB1.out.mono (by omega))).trans (b2.mono (by omega))
    clear b2
    go_wp2
    go_ret
    exact ⟨rfl, HE.out⟩


set_option maxRecDepth 100000 in
set_option maxHeartbeats 4000000 in
theorem known_4 (hrun : RunOK) (k : Int) (w : World) (hk : i64B k) (h0 : pickI k 5 = 4) :
    Calls Try.prog 6 #[.int .i64 k] w fun e w' => e = .returned (.bool true) ∧ Below w.heap.size w w' := by
  have HK : Hid (i64B k) := hk
  have HR : Hid RunOK := hrun
  clear hk hrun
  go_enter Try.func6, Try.ntmps6
  go_wp2_with (go_at_call 19; refine (pick_any k 5 _ HK.out (by omega) (by omega)).mono ?_; rintro e w' ⟨rfl, h⟩; obtain rfl := h.symm)
  refine name_calls (p := KnownAt w (.slice (some ⟨w.heap.size, 0, none⟩) 5 5) (.slice none 0 0) (.slice none 0 0) (.slice none 0 0) kL4 kM4 kT4 kW4 20 5) ⟨stepsV_blk (heap_alloc_new _ _) _ rfl, pairsV_nil _ _, intsV_nil _, pairsV_nil _ _, ?_, k4_e0, k4_e1, k4_e2, k4_e3⟩ ?_
  · exact ((Below.refl _ _).alloc (Nat.le_refl _) _)
  · skip
    rintro X ⟨hs, hm, ht, hw, hb, e0, e1, e2, e3⟩
    have HT : Hid (IntsV X (.slice none 0 0) kT4) := ht
    have HW : Hid (PairsV X X.heap.size (.slice none 0 0) kW4) := hw
    have HB : Hid (Below w.heap.size w X) := hb
    refine (HR.out _ _ kL4 kM4 20 X hs hm).mono ?_
    rintro e W1 ⟨tv, av, rfl, h1, h2, h3⟩
    rw [e2] at h1
    rw [e3] at h2
    obtain ⟨ta, tc, rfl⟩ := owns_form h1
    obtain ⟨aa, ac, rfl⟩ := owns_form h2
    have e4 : runTries kL4 kM4 20 = 1 := by simp [runTries, e0]
    rw [e0, e1, e4]
    have H1 : Hid (IntsV W1 (.slice ta kT4.length tc) kT4) := intsV_own h1 (by decide)
    have H2 : Hid (PairsV W1 W1.heap.size (.slice aa kW4.length ac) kW4) := pairsV_own h2 (by decide)
    have H3 : Hid (Below X.heap.size X W1) := h3
    clear hs hm ht hw hb e0 e1 e2 e3 e4 h1 h2 h3
    go_wp2_with fail
    refine name_calls (p := fun Y => Below W1.heap.size W1 Y ∧ Y.heap[W1.heap.size]? = some (.cells #[.int .i64 5, .slice ta kT4.length tc, .int .i64 1] 44 (0, 0))) ⟨(Below.refl _ _).alloc (Nat.le_refl _) _, heap_alloc_new _ _⟩ ?_
    rintro Y ⟨y1, y2⟩
    have HY : Hid (Below W1.heap.size W1 Y) := y1
    have HBo : Hid (Y.heap[W1.heap.size]? = some (.cells #[.int .i64 5, .slice ta kT4.length tc, .int .i64 1] 44 (0, 0))) := y2
    have hz1 := H3.out.size
    have HXY : Hid (Below X.heap.size X Y) := H3.out.trans (y1.mono hz1)
    have hlt := blk_lt y2
    clear y1 y2
    refine (pivotkeep_sameInts_any _ _ kT4 kT4 Y (H1.out.below HY.out) (HT.out.below HXY.out)).mono ?_
    rintro e Y1 ⟨rfl, b1⟩
    simp only [decide_true]
    have HB1 : Hid (Below Y.heap.size Y Y1) := b1
    have hz2 := b1.size
    have hz3 := HY.out.size
    clear b1
    go_wp2_with fail
    refine (pivotkeep_samePairs_any _ _ W1.heap.size X.heap.size kW4 kW4 Y1 ((H2.out.below HY.out (Nat.le_refl _)).below HB1.out hz3) ((HW.out.below HXY.out (Nat.le_refl _)).below HB1.out (by omega))).mono ?_
    rintro e Y2 ⟨rfl, b2⟩
    simp only [decide_true]
    have c0 : Y2.cell? ⟨W1.heap.size, 0, none⟩ = some (.int .i64 5) := by rw [b2.cell (show W1.heap.size < _ from by omega), HB1.out.cell (show W1.heap.size < _ from hlt), blk_cell HBo.out]; rfl
    have c2 : Y2.cell? ⟨W1.heap.size, 2, none⟩ = some (.int .i64 1) := by rw [b2.cell (show W1.heap.size < _ from by omega), HB1.out.cell (show W1.heap.size < _ from hlt), blk_cell HBo.out]; rfl
    have HE : Hid (Below w.heap.size w Y2) := by
      have s := HB.out.size
      exact ((HB.out.trans (HXY.out.mono s)).trans (HB1.out.mono (by omega))).trans (b2.mono (by omega))
    clear b2
    go_wp2
    go_ret
    exact ⟨rfl, HE.out⟩

theorem known_any (hrun : RunOK) (k : Int) (w : World) (hk : i64B k) :
    Calls Try.prog 6 #[.int .i64 k] w fun e w' => e = .returned (.bool true) ∧ Below w.heap.size w w' := by
  have h0 := pickI_lo k (n := 5) (by omega)
  have h1 := pickI_hi k (n := 5) (by omega)
  rcases (show pickI k 5 = 0 ∨ pickI k 5 = 1 ∨ pickI k 5 = 2 ∨ pickI k 5 = 3 ∨ pickI k 5 = 4 by omega) with h | h | h | h | h
  · exact known_0 hrun k w hk h
  · exact known_1 hrun k w hk h
  · exact known_2 hrun k w hk h
  · exact known_3 hrun k w hk h
  · exact known_4 hrun k w hk h

end Go.Proofs.Ytlbmcdoldnajoaa
