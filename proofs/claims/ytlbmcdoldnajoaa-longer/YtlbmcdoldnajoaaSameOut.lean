/- Outcomes held against each other; the marks of the law. -/
import Derived.Test.YtlbmcdoldnajoaaSame
import Derived.Test.YtlbmcdoldnajoaaMom
namespace Go.Proofs.Ytlbmcdoldnajoaa
open Go.RowKit

set_option maxRecDepth 100000 in
set_option maxHeartbeats 400000 in
theorem mark_any (n : Int) (w : World) (h0 : 0 ≤ n + 1) (h1 : n ≤ 1000000000000000000) :
    Calls Try.prog 52 #[.int .i64 n] w fun e w' => e = .returned (.int .i64 (-1000 - n)) ∧ w' = w := by
  go_enter Try.func52, Try.ntmps52
  go_wp2
  go_ret
  exact ⟨rfl, rfl⟩

set_option maxRecDepth 100000 in
set_option maxHeartbeats 400000 in
theorem badPair_any (n : Int) (w : World) (h0 : 0 ≤ n + 1) (h1 : n ≤ 1000000000000000000) :
    Calls Try.prog 46 #[.int .i64 n] w fun e w' => e = .returned (.agg #[.int .i64 (-1000 - n), .int .i64 (-1)]) ∧ w' = w.alloc (.cells #[.int .i64 (-1000 - n), .int .i64 (-1)] 42) := by
  go_enter Try.func46, Try.ntmps46
  go_wp2_with (go_at_call 52; refine (mark_any n _ h0 h1).mono ?_; rintro e wv ⟨rfl, rfl⟩)
  exact bodyPost_ret (v := .agg #[.int .i64 (-1000 - n), .int .i64 (-1)]) (by simp [results, Try.results46, go_sem]) rfl ⟨rfl, rfl⟩

/-- the two boxes of outcomes, behind a call that wrote nothing that was there -/
theorem boxes2 {w W : World} {a b c d e f : Value} {t : TypeId} (hb : Below ((w.alloc (.cells #[a, b, c] t)).alloc (.cells #[d, e, f] t)).heap.size ((w.alloc (.cells #[a, b, c] t)).alloc (.cells #[d, e, f] t)) W) :
    W.cell? ⟨w.heap.size, 0, none⟩ = some a ∧ W.cell? ⟨w.heap.size, 2, none⟩ = some c ∧ W.cell? ⟨w.heap.size + 1, 0, none⟩ = some d ∧ W.cell? ⟨w.heap.size + 1, 2, none⟩ = some f := by
  have h1 : W.heap[w.heap.size]? = some (.cells #[a, b, c] t) := by
    rw [hb.block _ (by simp; omega), Below.heap_alloc _ _ _ (by simp)]; exact heap_alloc_new w _
  have h2 : W.heap[w.heap.size + 1]? = some (.cells #[d, e, f] t) := by
    rw [hb.block _ (by simp)]
    have := heap_alloc_new (w.alloc (.cells #[a, b, c] t)) (.cells #[d, e, f] t)
    rwa [World.size_alloc] at this
  exact ⟨by rw [blk_cell h1]; rfl, by rw [blk_cell h1]; rfl, by rw [blk_cell h2]; rfl, by rw [blk_cell h2]; rfl⟩

set_option maxRecDepth 100000 in
set_option maxHeartbeats 1000000 in
theorem pivotlaw_sameOutcome_any (st tr su tq : Int) (tv uv : Value) (x y : List Int) (w : World) (ht : IntsV w tv x) (hu : IntsV w uv y) :
    Calls Try.prog 48 #[.agg #[.int .i64 st, tv, .int .i64 tr], .agg #[.int .i64 su, uv, .int .i64 tq]] w fun e w' => e = .returned (.bool (decide (x = y) && decide (st = su) && decide (tr = tq))) ∧ Below w.heap.size w w' := by
  have HT : Hid (IntsV w tv x) := ht
  have HU : Hid (IntsV w uv y) := hu
  obtain ⟨ta, tc, rfl, _⟩ := ht
  obtain ⟨ua, uc, rfl, _⟩ := hu
  rcases (show (¬ x = y) ∨ (x = y ∧ ¬ st = su) ∨ (x = y ∧ st = su ∧ ¬ tr = tq) ∨ (x = y ∧ st = su ∧ tr = tq) from by by_cases h1 : x = y <;> by_cases h2 : st = su <;> by_cases h3 : tr = tq <;> simp [*]) with k0 | ⟨rfl, k1⟩ | ⟨rfl, rfl, k2⟩ | ⟨rfl, rfl, rfl⟩
  all_goals
    go_enter Try.func48, Try.ntmps48
    go_wp2_with fail
    refine (pivotlaw_sameInts_any _ _ _ _ _ (HT.out.below (((Below.refl _ _).alloc (Nat.le_refl _) _).alloc (by simp) _)) (HU.out.below (((Below.refl _ _).alloc (Nat.le_refl _) _).alloc (by simp) _))).mono ?_
    rintro e W ⟨rfl, hb⟩
    obtain ⟨c0, c2, d0, d2⟩ := boxes2 hb
    have HB : Hid (Below w.heap.size w W) := (((Below.refl _ _).alloc (Nat.le_refl _) _).alloc (by simp) _).trans (hb.mono (by simp; omega))
    clear hb
    go_wp2
    go_ret
    refine ⟨ret_bool ?_, HB.out⟩
    simp [*]

set_option maxRecDepth 100000 in
set_option maxHeartbeats 1000000 in
theorem pivotkeep_sameOutcome_any (st tr su tq : Int) (tv uv : Value) (x y : List Int) (w : World) (ht : IntsV w tv x) (hu : IntsV w uv y) :
    Calls Try.prog 30 #[.agg #[.int .i64 st, tv, .int .i64 tr], .agg #[.int .i64 su, uv, .int .i64 tq]] w fun e w' => e = .returned (.bool (decide (x = y) && decide (st = su))) ∧ Below w.heap.size w w' := by
  have HT : Hid (IntsV w tv x) := ht
  have HU : Hid (IntsV w uv y) := hu
  obtain ⟨ta, tc, rfl, _⟩ := ht
  obtain ⟨ua, uc, rfl, _⟩ := hu
  rcases (show (¬ x = y) ∨ (x = y ∧ ¬ st = su) ∨ (x = y ∧ st = su) from by by_cases h1 : x = y <;> by_cases h2 : st = su <;> simp [*]) with k0 | ⟨rfl, k1⟩ | ⟨rfl, rfl⟩
  all_goals
    go_enter Try.func30, Try.ntmps30
    go_wp2_with fail
    refine (pivotkeep_sameInts_any _ _ _ _ _ (HT.out.below (((Below.refl _ _).alloc (Nat.le_refl _) _).alloc (by simp) _)) (HU.out.below (((Below.refl _ _).alloc (Nat.le_refl _) _).alloc (by simp) _))).mono ?_
    rintro e W ⟨rfl, hb⟩
    obtain ⟨c0, c2, d0, d2⟩ := boxes2 hb
    have HB : Hid (Below w.heap.size w W) := (((Below.refl _ _).alloc (Nat.le_refl _) _).alloc (by simp) _).trans (hb.mono (by simp; omega))
    clear hb
    go_wp2
    go_ret
    refine ⟨ret_bool ?_, HB.out⟩
    simp [*]

end Go.Proofs.Ytlbmcdoldnajoaa
