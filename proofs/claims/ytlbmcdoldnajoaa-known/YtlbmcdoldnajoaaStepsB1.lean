/- The walks of 'may a step stand here': the document's own, operations 1 to 6. -/
import Derived.Test.YtlbmcdoldnajoaaSmall
namespace Go.Proofs.Ytlbmcdoldnajoaa
open Go.RowKit

set_option maxRecDepth 100000 in
set_option maxHeartbeats 1000000 in
theorem operands_1 (a b c x n : Int) (w : World) :
    Calls Try.prog 79 #[.agg #[.int .i64 1, .int .i64 a, .int .i64 b, .int .i64 c], .int .i64 x, .int .i64 n] w fun e w' => e = .returned (.bool (regB a && inB b 0 999 && decide (c = 0))) ∧ Below w.heap.size w w' := by
  rcases (show (regB a = false) ∨ (regB a = true ∧ b < 0) ∨ (regB a = true ∧ 0 ≤ b ∧ 999 < b) ∨ (regB a = true ∧ 0 ≤ b ∧ b ≤ 999 ∧ ¬ c = 0) ∨ (regB a = true ∧ 0 ≤ b ∧ b ≤ 999 ∧ c = 0) from by cases d0 : regB a <;> by_cases d1 : b < 0 <;> by_cases e1 : 999 < b <;> by_cases d2 : c = 0 <;> (simp [*] <;> omega)) with k0 | ⟨k0, k1⟩ | ⟨k0, k1, k2⟩ | ⟨k0, k1, k2, k3⟩ | ⟨k0, k1, k2, k3⟩
  all_goals
    go_enter Try.func79, Try.ntmps79
    go_wp2_with (first | (go_at_call 104; refine (reg_any _ _).mono ?_; rintro e w' ⟨rfl, rfl⟩) | (go_at_call 105; refine (key_any _ _).mono ?_; rintro e w' ⟨rfl, rfl⟩))
    go_ret
    refine ⟨ret_bool ?_, (Below.refl _ _).alloc (Nat.le_refl _) _⟩
    simp [inB, *] <;> omega

set_option maxRecDepth 100000 in
set_option maxHeartbeats 1000000 in
theorem operands_2 (a b c x n : Int) (w : World) :
    Calls Try.prog 79 #[.agg #[.int .i64 2, .int .i64 a, .int .i64 b, .int .i64 c], .int .i64 x, .int .i64 n] w fun e w' => e = .returned (.bool (regB a && keyB b && decide (c = 0))) ∧ Below w.heap.size w w' := by
  rcases (show (regB a = false) ∨ (regB a = true ∧ keyB b = false) ∨ (regB a = true ∧ keyB b = true ∧ ¬ c = 0) ∨ (regB a = true ∧ keyB b = true ∧ c = 0) from by cases d0 : regB a <;> cases d1 : keyB b <;> by_cases d2 : c = 0 <;> simp [*]) with k0 | ⟨k0, k1⟩ | ⟨k0, k1, k2⟩ | ⟨k0, k1, k2⟩
  all_goals
    go_enter Try.func79, Try.ntmps79
    go_wp2_with (first | (go_at_call 104; refine (reg_any _ _).mono ?_; rintro e w' ⟨rfl, rfl⟩) | (go_at_call 105; refine (key_any _ _).mono ?_; rintro e w' ⟨rfl, rfl⟩))
    go_ret
    refine ⟨ret_bool ?_, (Below.refl _ _).alloc (Nat.le_refl _) _⟩
    simp [*]

set_option maxRecDepth 100000 in
set_option maxHeartbeats 1000000 in
theorem operands_3 (a b c x n : Int) (w : World) :
    Calls Try.prog 79 #[.agg #[.int .i64 3, .int .i64 a, .int .i64 b, .int .i64 c], .int .i64 x, .int .i64 n] w fun e w' => e = .returned (.bool (keyB a && regB b && decide (c = 0))) ∧ Below w.heap.size w w' := by
  rcases (show (keyB a = false) ∨ (keyB a = true ∧ regB b = false) ∨ (keyB a = true ∧ regB b = true ∧ ¬ c = 0) ∨ (keyB a = true ∧ regB b = true ∧ c = 0) from by cases d0 : keyB a <;> cases d1 : regB b <;> by_cases d2 : c = 0 <;> simp [*]) with k0 | ⟨k0, k1⟩ | ⟨k0, k1, k2⟩ | ⟨k0, k1, k2⟩
  all_goals
    go_enter Try.func79, Try.ntmps79
    go_wp2_with (first | (go_at_call 104; refine (reg_any _ _).mono ?_; rintro e w' ⟨rfl, rfl⟩) | (go_at_call 105; refine (key_any _ _).mono ?_; rintro e w' ⟨rfl, rfl⟩))
    go_ret
    refine ⟨ret_bool ?_, (Below.refl _ _).alloc (Nat.le_refl _) _⟩
    simp [*]

set_option maxRecDepth 100000 in
set_option maxHeartbeats 1000000 in
theorem operands_4 (a b c x n : Int) (w : World) :
    Calls Try.prog 79 #[.agg #[.int .i64 4, .int .i64 a, .int .i64 b, .int .i64 c], .int .i64 x, .int .i64 n] w fun e w' => e = .returned (.bool (keyB a && decide (b = 0) && decide (c = 0))) ∧ Below w.heap.size w w' := by
  rcases (show (keyB a = false) ∨ (keyB a = true ∧ ¬ b = 0) ∨ (keyB a = true ∧ b = 0 ∧ ¬ c = 0) ∨ (keyB a = true ∧ b = 0 ∧ c = 0) from by cases d0 : keyB a <;> by_cases d1 : b = 0 <;> by_cases d2 : c = 0 <;> simp [*]) with k0 | ⟨k0, k1⟩ | ⟨k0, k1, k2⟩ | ⟨k0, k1, k2⟩
  all_goals
    go_enter Try.func79, Try.ntmps79
    go_wp2_with (first | (go_at_call 104; refine (reg_any _ _).mono ?_; rintro e w' ⟨rfl, rfl⟩) | (go_at_call 105; refine (key_any _ _).mono ?_; rintro e w' ⟨rfl, rfl⟩))
    go_ret
    refine ⟨ret_bool ?_, (Below.refl _ _).alloc (Nat.le_refl _) _⟩
    simp [*]

set_option maxRecDepth 100000 in
set_option maxHeartbeats 1000000 in
theorem operands_5 (a b c x n : Int) (w : World) :
    Calls Try.prog 79 #[.agg #[.int .i64 5, .int .i64 a, .int .i64 b, .int .i64 c], .int .i64 x, .int .i64 n] w fun e w' => e = .returned (.bool (regB a && keyB b && keyB c && decide (b ≤ c))) ∧ Below w.heap.size w w' := by
  rcases (show (regB a = false) ∨ (regB a = true ∧ keyB b = false) ∨ (regB a = true ∧ keyB b = true ∧ keyB c = false) ∨ (regB a = true ∧ keyB b = true ∧ keyB c = true ∧ ¬ b ≤ c) ∨ (regB a = true ∧ keyB b = true ∧ keyB c = true ∧ b ≤ c) from by cases d0 : regB a <;> cases d1 : keyB b <;> cases d2 : keyB c <;> by_cases d3 : b ≤ c <;> simp [*]) with k0 | ⟨k0, k1⟩ | ⟨k0, k1, k2⟩ | ⟨k0, k1, k2, k3⟩ | ⟨k0, k1, k2, k3⟩
  all_goals
    go_enter Try.func79, Try.ntmps79
    go_wp2_with (first | (go_at_call 104; refine (reg_any _ _).mono ?_; rintro e w' ⟨rfl, rfl⟩) | (go_at_call 105; refine (key_any _ _).mono ?_; rintro e w' ⟨rfl, rfl⟩))
    go_ret
    refine ⟨ret_bool ?_, (Below.refl _ _).alloc (Nat.le_refl _) _⟩
    simp [*]

set_option maxRecDepth 100000 in
set_option maxHeartbeats 1000000 in
theorem operands_6 (a b c x n : Int) (w : World) :
    Calls Try.prog 79 #[.agg #[.int .i64 6, .int .i64 a, .int .i64 b, .int .i64 c], .int .i64 x, .int .i64 n] w fun e w' => e = .returned (.bool (regB a && keyB b && keyB c && decide (b ≤ c))) ∧ Below w.heap.size w w' := by
  rcases (show (regB a = false) ∨ (regB a = true ∧ keyB b = false) ∨ (regB a = true ∧ keyB b = true ∧ keyB c = false) ∨ (regB a = true ∧ keyB b = true ∧ keyB c = true ∧ ¬ b ≤ c) ∨ (regB a = true ∧ keyB b = true ∧ keyB c = true ∧ b ≤ c) from by cases d0 : regB a <;> cases d1 : keyB b <;> cases d2 : keyB c <;> by_cases d3 : b ≤ c <;> simp [*]) with k0 | ⟨k0, k1⟩ | ⟨k0, k1, k2⟩ | ⟨k0, k1, k2, k3⟩ | ⟨k0, k1, k2, k3⟩
  all_goals
    go_enter Try.func79, Try.ntmps79
    go_wp2_with (first | (go_at_call 104; refine (reg_any _ _).mono ?_; rintro e w' ⟨rfl, rfl⟩) | (go_at_call 105; refine (key_any _ _).mono ?_; rintro e w' ⟨rfl, rfl⟩))
    go_ret
    refine ⟨ret_bool ?_, (Below.refl _ _).alloc (Nat.le_refl _) _⟩
    simp [*]

end Go.Proofs.Ytlbmcdoldnajoaa
