/- The walks of 'may a step stand here': the document's own, operations 7 to 12, and all others. -/
import Derived.Test.YtlbmcdoldnajoaaSmall
namespace Go.Proofs.Ytlbmcdoldnajoaa
open Go.RowKit

set_option maxRecDepth 100000 in
set_option maxHeartbeats 1000000 in
theorem operands_7 (a b c x n : Int) (w : World) :
    Calls Try.prog 79 #[.agg #[.int .i64 7, .int .i64 a, .int .i64 b, .int .i64 c], .int .i64 x, .int .i64 n] w fun e w' => e = .returned (.bool (regB a && regB b && decide (c = 0))) ∧ Below w.heap.size w w' := by
  rcases (show (regB a = false) ∨ (regB a = true ∧ regB b = false) ∨ (regB a = true ∧ regB b = true ∧ ¬ c = 0) ∨ (regB a = true ∧ regB b = true ∧ c = 0) from by cases d0 : regB a <;> cases d1 : regB b <;> by_cases d2 : c = 0 <;> simp [*]) with k0 | ⟨k0, k1⟩ | ⟨k0, k1, k2⟩ | ⟨k0, k1, k2⟩
  all_goals
    go_enter Try.func79, Try.ntmps79
    go_wp2_with (first | (go_at_call 104; refine (reg_any _ _).mono ?_; rintro e w' ⟨rfl, rfl⟩) | (go_at_call 105; refine (key_any _ _).mono ?_; rintro e w' ⟨rfl, rfl⟩))
    go_ret
    refine ⟨ret_bool ?_, (Below.refl _ _).alloc (Nat.le_refl _) _⟩
    simp [*]

set_option maxRecDepth 100000 in
set_option maxHeartbeats 1000000 in
theorem operands_8 (a b c x n : Int) (w : World) :
    Calls Try.prog 79 #[.agg #[.int .i64 8, .int .i64 a, .int .i64 b, .int .i64 c], .int .i64 x, .int .i64 n] w fun e w' => e = .returned (.bool (regB a && regB b && decide (c = 0))) ∧ Below w.heap.size w w' := by
  rcases (show (regB a = false) ∨ (regB a = true ∧ regB b = false) ∨ (regB a = true ∧ regB b = true ∧ ¬ c = 0) ∨ (regB a = true ∧ regB b = true ∧ c = 0) from by cases d0 : regB a <;> cases d1 : regB b <;> by_cases d2 : c = 0 <;> simp [*]) with k0 | ⟨k0, k1⟩ | ⟨k0, k1, k2⟩ | ⟨k0, k1, k2⟩
  all_goals
    go_enter Try.func79, Try.ntmps79
    go_wp2_with (first | (go_at_call 104; refine (reg_any _ _).mono ?_; rintro e w' ⟨rfl, rfl⟩) | (go_at_call 105; refine (key_any _ _).mono ?_; rintro e w' ⟨rfl, rfl⟩))
    go_ret
    refine ⟨ret_bool ?_, (Below.refl _ _).alloc (Nat.le_refl _) _⟩
    simp [*]

set_option maxRecDepth 100000 in
set_option maxHeartbeats 1000000 in
theorem operands_9 (a b c x n : Int) (w : World) (_hx : 0 ≤ x) (_hx' : x ≤ 32) (_hn : 0 ≤ n) (_hn' : n ≤ 32) :
    Calls Try.prog 79 #[.agg #[.int .i64 9, .int .i64 a, .int .i64 b, .int .i64 c], .int .i64 x, .int .i64 n] w fun e w' => e = .returned (.bool (regB a && inB b 1 (n - 1 - x) && decide (c = 0))) ∧ Below w.heap.size w w' := by
  rcases (show (regB a = false) ∨ (regB a = true ∧ b < 1) ∨ (regB a = true ∧ 1 ≤ b ∧ n - x - 1 < b) ∨ (regB a = true ∧ 1 ≤ b ∧ b ≤ n - x - 1 ∧ ¬ c = 0) ∨ (regB a = true ∧ 1 ≤ b ∧ b ≤ n - x - 1 ∧ c = 0) from by cases d0 : regB a <;> by_cases d1 : b < 1 <;> by_cases e1 : n - x - 1 < b <;> by_cases d2 : c = 0 <;> (simp [*] <;> omega)) with k0 | ⟨k0, k1⟩ | ⟨k0, k1, k2⟩ | ⟨k0, k1, k2, k3⟩ | ⟨k0, k1, k2, k3⟩
  all_goals
    go_enter Try.func79, Try.ntmps79
    go_wp2_with (first | (go_at_call 104; refine (reg_any _ _).mono ?_; rintro e w' ⟨rfl, rfl⟩) | (go_at_call 105; refine (key_any _ _).mono ?_; rintro e w' ⟨rfl, rfl⟩))
    go_ret
    refine ⟨ret_bool ?_, (Below.refl _ _).alloc (Nat.le_refl _) _⟩
    simp [inB, *] <;> omega

set_option maxRecDepth 100000 in
set_option maxHeartbeats 1000000 in
theorem operands_10 (a b c x n : Int) (w : World) :
    Calls Try.prog 79 #[.agg #[.int .i64 10, .int .i64 a, .int .i64 b, .int .i64 c], .int .i64 x, .int .i64 n] w fun e w' => e = .returned (.bool (regB a && inB b 1 x && decide (c = 0))) ∧ Below w.heap.size w w' := by
  rcases (show (regB a = false) ∨ (regB a = true ∧ b < 1) ∨ (regB a = true ∧ 1 ≤ b ∧ x < b) ∨ (regB a = true ∧ 1 ≤ b ∧ b ≤ x ∧ ¬ c = 0) ∨ (regB a = true ∧ 1 ≤ b ∧ b ≤ x ∧ c = 0) from by cases d0 : regB a <;> by_cases d1 : b < 1 <;> by_cases e1 : x < b <;> by_cases d2 : c = 0 <;> (simp [*] <;> omega)) with k0 | ⟨k0, k1⟩ | ⟨k0, k1, k2⟩ | ⟨k0, k1, k2, k3⟩ | ⟨k0, k1, k2, k3⟩
  all_goals
    go_enter Try.func79, Try.ntmps79
    go_wp2_with (first | (go_at_call 104; refine (reg_any _ _).mono ?_; rintro e w' ⟨rfl, rfl⟩) | (go_at_call 105; refine (key_any _ _).mono ?_; rintro e w' ⟨rfl, rfl⟩))
    go_ret
    refine ⟨ret_bool ?_, (Below.refl _ _).alloc (Nat.le_refl _) _⟩
    simp [inB, *] <;> omega

set_option maxRecDepth 100000 in
set_option maxHeartbeats 1000000 in
theorem operands_11 (a b c x n : Int) (w : World) :
    Calls Try.prog 79 #[.agg #[.int .i64 11, .int .i64 a, .int .i64 b, .int .i64 c], .int .i64 x, .int .i64 n] w fun e w' => e = .returned (.bool (regB a && decide (b = 0) && decide (c = 0))) ∧ Below w.heap.size w w' := by
  rcases (show (regB a = false) ∨ (regB a = true ∧ ¬ b = 0) ∨ (regB a = true ∧ b = 0 ∧ ¬ c = 0) ∨ (regB a = true ∧ b = 0 ∧ c = 0) from by cases d0 : regB a <;> by_cases d1 : b = 0 <;> by_cases d2 : c = 0 <;> simp [*]) with k0 | ⟨k0, k1⟩ | ⟨k0, k1, k2⟩ | ⟨k0, k1, k2⟩
  all_goals
    go_enter Try.func79, Try.ntmps79
    go_wp2_with (first | (go_at_call 104; refine (reg_any _ _).mono ?_; rintro e w' ⟨rfl, rfl⟩) | (go_at_call 105; refine (key_any _ _).mono ?_; rintro e w' ⟨rfl, rfl⟩))
    go_ret
    refine ⟨ret_bool ?_, (Below.refl _ _).alloc (Nat.le_refl _) _⟩
    simp [*]

set_option maxRecDepth 100000 in
set_option maxHeartbeats 1000000 in
theorem operands_12 (a b c x n : Int) (w : World) :
    Calls Try.prog 79 #[.agg #[.int .i64 12, .int .i64 a, .int .i64 b, .int .i64 c], .int .i64 x, .int .i64 n] w fun e w' => e = .returned (.bool (decide (a = 0) && decide (b = 0) && decide (c = 0))) ∧ Below w.heap.size w w' := by
  rcases (show (¬ a = 0) ∨ (a = 0 ∧ ¬ b = 0) ∨ (a = 0 ∧ b = 0 ∧ ¬ c = 0) ∨ (a = 0 ∧ b = 0 ∧ c = 0) from by by_cases d0 : a = 0 <;> by_cases d1 : b = 0 <;> by_cases d2 : c = 0 <;> simp [*]) with k0 | ⟨k0, k1⟩ | ⟨k0, k1, k2⟩ | ⟨k0, k1, k2⟩
  all_goals
    go_enter Try.func79, Try.ntmps79
    go_wp2_with (first | (go_at_call 104; refine (reg_any _ _).mono ?_; rintro e w' ⟨rfl, rfl⟩) | (go_at_call 105; refine (key_any _ _).mono ?_; rintro e w' ⟨rfl, rfl⟩))
    go_ret
    refine ⟨ret_bool ?_, (Below.refl _ _).alloc (Nat.le_refl _) _⟩
    simp [*]

set_option maxRecDepth 100000 in
set_option maxHeartbeats 1000000 in
theorem operands_no (op a b c x n : Int) (w : World) (h : op < 1 ∨ 12 < op) :
    Calls Try.prog 79 #[.agg #[.int .i64 op, .int .i64 a, .int .i64 b, .int .i64 c], .int .i64 x, .int .i64 n] w fun e w' => e = .returned (.bool false) ∧ Below w.heap.size w w' := by
  rcases h with h | h
  all_goals
    go_enter Try.func79, Try.ntmps79
    go_wp2_with (first | (go_at_call 104; refine (reg_any _ _).mono ?_; rintro e w' ⟨rfl, rfl⟩) | (go_at_call 105; refine (key_any _ _).mono ?_; rintro e w' ⟨rfl, rfl⟩))
    go_ret
    exact ⟨rfl, (Below.refl _ _).alloc (Nat.le_refl _) _⟩

end Go.Proofs.Ytlbmcdoldnajoaa
