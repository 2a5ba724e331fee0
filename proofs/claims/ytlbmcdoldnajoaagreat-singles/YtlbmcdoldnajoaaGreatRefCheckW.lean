import Derived.Test.YtlbmcdoldnajoaaGreatFrame
import Derived.Test.YtlbmcdoldnajoaaGreatStepsA2
set_option maxRecDepth 100000
set_option maxHeartbeats 1000000
namespace Go.Proofs.YtlbmcdoldnajoaaGreat
open Go.RowKit
theorem operands_1 (a b c x n : Int) (w : World) :
    Calls Tryz.prog 45 #[.agg #[.int .i64 1, .int .i64 a, .int .i64 b, .int .i64 c], .int .i64 x, .int .i64 n] w fun e w' => e = .returned (.bool (regB a && inB b 0 999 && decide (c = 0))) ∧ Below w.heap.size w w' := by
  rcases (show (regB a = false) ∨ (regB a = true ∧ b < 0) ∨ (regB a = true ∧ 0 ≤ b ∧ 999 < b) ∨ (regB a = true ∧ 0 ≤ b ∧ b ≤ 999 ∧ ¬ c = 0) ∨ (regB a = true ∧ 0 ≤ b ∧ b ≤ 999 ∧ c = 0) from by cases d0 : regB a <;> by_cases d1 : b < 0 <;> by_cases e1 : 999 < b <;> by_cases d2 : c = 0 <;> (simp [*] <;> omega)) with k0 | ⟨k0, k1⟩ | ⟨k0, k1, k2⟩ | ⟨k0, k1, k2, k3⟩ | ⟨k0, k1, k2, k3⟩
  all_goals
    go_enter Tryz.func45, Tryz.ntmps45
    go_wp2_with (first | (go_at_call 72; refine (reg_any _ _).mono ?_; rintro e w' ⟨rfl, rfl⟩) | (go_at_call 73; refine (key_any _ _).mono ?_; rintro e w' ⟨rfl, rfl⟩))
    go_ret
    refine ⟨ret_bool ?_, (Below.refl _ _).alloc (Nat.le_refl _) _⟩
    simp [inB, *] <;> omega
theorem operands_2 (a b c x n : Int) (w : World) :
    Calls Tryz.prog 45 #[.agg #[.int .i64 2, .int .i64 a, .int .i64 b, .int .i64 c], .int .i64 x, .int .i64 n] w fun e w' => e = .returned (.bool (regB a && keyB b && decide (c = 0))) ∧ Below w.heap.size w w' := by
  rcases (show (regB a = false) ∨ (regB a = true ∧ keyB b = false) ∨ (regB a = true ∧ keyB b = true ∧ ¬ c = 0) ∨ (regB a = true ∧ keyB b = true ∧ c = 0) from by cases d0 : regB a <;> cases d1 : keyB b <;> by_cases d2 : c = 0 <;> simp [*]) with k0 | ⟨k0, k1⟩ | ⟨k0, k1, k2⟩ | ⟨k0, k1, k2⟩
  all_goals
    go_enter Tryz.func45, Tryz.ntmps45
    go_wp2_with (first | (go_at_call 72; refine (reg_any _ _).mono ?_; rintro e w' ⟨rfl, rfl⟩) | (go_at_call 73; refine (key_any _ _).mono ?_; rintro e w' ⟨rfl, rfl⟩))
    go_ret
    refine ⟨ret_bool ?_, (Below.refl _ _).alloc (Nat.le_refl _) _⟩
    simp [*]
theorem operands_3 (a b c x n : Int) (w : World) :
    Calls Tryz.prog 45 #[.agg #[.int .i64 3, .int .i64 a, .int .i64 b, .int .i64 c], .int .i64 x, .int .i64 n] w fun e w' => e = .returned (.bool (keyB a && regB b && decide (c = 0))) ∧ Below w.heap.size w w' := by
  rcases (show (keyB a = false) ∨ (keyB a = true ∧ regB b = false) ∨ (keyB a = true ∧ regB b = true ∧ ¬ c = 0) ∨ (keyB a = true ∧ regB b = true ∧ c = 0) from by cases d0 : keyB a <;> cases d1 : regB b <;> by_cases d2 : c = 0 <;> simp [*]) with k0 | ⟨k0, k1⟩ | ⟨k0, k1, k2⟩ | ⟨k0, k1, k2⟩
  all_goals
    go_enter Tryz.func45, Tryz.ntmps45
    go_wp2_with (first | (go_at_call 72; refine (reg_any _ _).mono ?_; rintro e w' ⟨rfl, rfl⟩) | (go_at_call 73; refine (key_any _ _).mono ?_; rintro e w' ⟨rfl, rfl⟩))
    go_ret
    refine ⟨ret_bool ?_, (Below.refl _ _).alloc (Nat.le_refl _) _⟩
    simp [*]
theorem operands_4 (a b c x n : Int) (w : World) :
    Calls Tryz.prog 45 #[.agg #[.int .i64 4, .int .i64 a, .int .i64 b, .int .i64 c], .int .i64 x, .int .i64 n] w fun e w' => e = .returned (.bool (keyB a && decide (b = 0) && decide (c = 0))) ∧ Below w.heap.size w w' := by
  rcases (show (keyB a = false) ∨ (keyB a = true ∧ ¬ b = 0) ∨ (keyB a = true ∧ b = 0 ∧ ¬ c = 0) ∨ (keyB a = true ∧ b = 0 ∧ c = 0) from by cases d0 : keyB a <;> by_cases d1 : b = 0 <;> by_cases d2 : c = 0 <;> simp [*]) with k0 | ⟨k0, k1⟩ | ⟨k0, k1, k2⟩ | ⟨k0, k1, k2⟩
  all_goals
    go_enter Tryz.func45, Tryz.ntmps45
    go_wp2_with (first | (go_at_call 72; refine (reg_any _ _).mono ?_; rintro e w' ⟨rfl, rfl⟩) | (go_at_call 73; refine (key_any _ _).mono ?_; rintro e w' ⟨rfl, rfl⟩))
    go_ret
    refine ⟨ret_bool ?_, (Below.refl _ _).alloc (Nat.le_refl _) _⟩
    simp [*]
theorem operands_5 (a b c x n : Int) (w : World) :
    Calls Tryz.prog 45 #[.agg #[.int .i64 5, .int .i64 a, .int .i64 b, .int .i64 c], .int .i64 x, .int .i64 n] w fun e w' => e = .returned (.bool (regB a && keyB b && keyB c && decide (b ≤ c))) ∧ Below w.heap.size w w' := by
  rcases (show (regB a = false) ∨ (regB a = true ∧ keyB b = false) ∨ (regB a = true ∧ keyB b = true ∧ keyB c = false) ∨ (regB a = true ∧ keyB b = true ∧ keyB c = true ∧ ¬ b ≤ c) ∨ (regB a = true ∧ keyB b = true ∧ keyB c = true ∧ b ≤ c) from by cases d0 : regB a <;> cases d1 : keyB b <;> cases d2 : keyB c <;> by_cases d3 : b ≤ c <;> simp [*]) with k0 | ⟨k0, k1⟩ | ⟨k0, k1, k2⟩ | ⟨k0, k1, k2, k3⟩ | ⟨k0, k1, k2, k3⟩
  all_goals
    go_enter Tryz.func45, Tryz.ntmps45
    go_wp2_with (first | (go_at_call 72; refine (reg_any _ _).mono ?_; rintro e w' ⟨rfl, rfl⟩) | (go_at_call 73; refine (key_any _ _).mono ?_; rintro e w' ⟨rfl, rfl⟩))
    go_ret
    refine ⟨ret_bool ?_, (Below.refl _ _).alloc (Nat.le_refl _) _⟩
    simp [*]
theorem operands_6 (a b c x n : Int) (w : World) :
    Calls Tryz.prog 45 #[.agg #[.int .i64 6, .int .i64 a, .int .i64 b, .int .i64 c], .int .i64 x, .int .i64 n] w fun e w' => e = .returned (.bool (regB a && keyB b && keyB c && decide (b ≤ c))) ∧ Below w.heap.size w w' := by
  rcases (show (regB a = false) ∨ (regB a = true ∧ keyB b = false) ∨ (regB a = true ∧ keyB b = true ∧ keyB c = false) ∨ (regB a = true ∧ keyB b = true ∧ keyB c = true ∧ ¬ b ≤ c) ∨ (regB a = true ∧ keyB b = true ∧ keyB c = true ∧ b ≤ c) from by cases d0 : regB a <;> cases d1 : keyB b <;> cases d2 : keyB c <;> by_cases d3 : b ≤ c <;> simp [*]) with k0 | ⟨k0, k1⟩ | ⟨k0, k1, k2⟩ | ⟨k0, k1, k2, k3⟩ | ⟨k0, k1, k2, k3⟩
  all_goals
    go_enter Tryz.func45, Tryz.ntmps45
    go_wp2_with (first | (go_at_call 72; refine (reg_any _ _).mono ?_; rintro e w' ⟨rfl, rfl⟩) | (go_at_call 73; refine (key_any _ _).mono ?_; rintro e w' ⟨rfl, rfl⟩))
    go_ret
    refine ⟨ret_bool ?_, (Below.refl _ _).alloc (Nat.le_refl _) _⟩
    simp [*]
theorem operands_7 (a b c x n : Int) (w : World) :
    Calls Tryz.prog 45 #[.agg #[.int .i64 7, .int .i64 a, .int .i64 b, .int .i64 c], .int .i64 x, .int .i64 n] w fun e w' => e = .returned (.bool (regB a && regB b && decide (c = 0))) ∧ Below w.heap.size w w' := by
  rcases (show (regB a = false) ∨ (regB a = true ∧ regB b = false) ∨ (regB a = true ∧ regB b = true ∧ ¬ c = 0) ∨ (regB a = true ∧ regB b = true ∧ c = 0) from by cases d0 : regB a <;> cases d1 : regB b <;> by_cases d2 : c = 0 <;> simp [*]) with k0 | ⟨k0, k1⟩ | ⟨k0, k1, k2⟩ | ⟨k0, k1, k2⟩
  all_goals
    go_enter Tryz.func45, Tryz.ntmps45
    go_wp2_with (first | (go_at_call 72; refine (reg_any _ _).mono ?_; rintro e w' ⟨rfl, rfl⟩) | (go_at_call 73; refine (key_any _ _).mono ?_; rintro e w' ⟨rfl, rfl⟩))
    go_ret
    refine ⟨ret_bool ?_, (Below.refl _ _).alloc (Nat.le_refl _) _⟩
    simp [*]
theorem operands_8 (a b c x n : Int) (w : World) :
    Calls Tryz.prog 45 #[.agg #[.int .i64 8, .int .i64 a, .int .i64 b, .int .i64 c], .int .i64 x, .int .i64 n] w fun e w' => e = .returned (.bool (regB a && regB b && decide (c = 0))) ∧ Below w.heap.size w w' := by
  rcases (show (regB a = false) ∨ (regB a = true ∧ regB b = false) ∨ (regB a = true ∧ regB b = true ∧ ¬ c = 0) ∨ (regB a = true ∧ regB b = true ∧ c = 0) from by cases d0 : regB a <;> cases d1 : regB b <;> by_cases d2 : c = 0 <;> simp [*]) with k0 | ⟨k0, k1⟩ | ⟨k0, k1, k2⟩ | ⟨k0, k1, k2⟩
  all_goals
    go_enter Tryz.func45, Tryz.ntmps45
    go_wp2_with (first | (go_at_call 72; refine (reg_any _ _).mono ?_; rintro e w' ⟨rfl, rfl⟩) | (go_at_call 73; refine (key_any _ _).mono ?_; rintro e w' ⟨rfl, rfl⟩))
    go_ret
    refine ⟨ret_bool ?_, (Below.refl _ _).alloc (Nat.le_refl _) _⟩
    simp [*]
theorem operands_9 (a b c x n : Int) (w : World) (_hx : 0 ≤ x) (_hx' : x ≤ 32) (_hn : 0 ≤ n) (_hn' : n ≤ 32) :
    Calls Tryz.prog 45 #[.agg #[.int .i64 9, .int .i64 a, .int .i64 b, .int .i64 c], .int .i64 x, .int .i64 n] w fun e w' => e = .returned (.bool (regB a && inB b 1 (n - 1 - x) && decide (c = 0))) ∧ Below w.heap.size w w' := by
  rcases (show (regB a = false) ∨ (regB a = true ∧ b < 1) ∨ (regB a = true ∧ 1 ≤ b ∧ n - x - 1 < b) ∨ (regB a = true ∧ 1 ≤ b ∧ b ≤ n - x - 1 ∧ ¬ c = 0) ∨ (regB a = true ∧ 1 ≤ b ∧ b ≤ n - x - 1 ∧ c = 0) from by cases d0 : regB a <;> by_cases d1 : b < 1 <;> by_cases e1 : n - x - 1 < b <;> by_cases d2 : c = 0 <;> (simp [*] <;> omega)) with k0 | ⟨k0, k1⟩ | ⟨k0, k1, k2⟩ | ⟨k0, k1, k2, k3⟩ | ⟨k0, k1, k2, k3⟩
  all_goals
    go_enter Tryz.func45, Tryz.ntmps45
    go_wp2_with (first | (go_at_call 72; refine (reg_any _ _).mono ?_; rintro e w' ⟨rfl, rfl⟩) | (go_at_call 73; refine (key_any _ _).mono ?_; rintro e w' ⟨rfl, rfl⟩))
    go_ret
    refine ⟨ret_bool ?_, (Below.refl _ _).alloc (Nat.le_refl _) _⟩
    simp [inB, *] <;> omega
theorem operands_10 (a b c x n : Int) (w : World) :
    Calls Tryz.prog 45 #[.agg #[.int .i64 10, .int .i64 a, .int .i64 b, .int .i64 c], .int .i64 x, .int .i64 n] w fun e w' => e = .returned (.bool (regB a && inB b 1 x && decide (c = 0))) ∧ Below w.heap.size w w' := by
  rcases (show (regB a = false) ∨ (regB a = true ∧ b < 1) ∨ (regB a = true ∧ 1 ≤ b ∧ x < b) ∨ (regB a = true ∧ 1 ≤ b ∧ b ≤ x ∧ ¬ c = 0) ∨ (regB a = true ∧ 1 ≤ b ∧ b ≤ x ∧ c = 0) from by cases d0 : regB a <;> by_cases d1 : b < 1 <;> by_cases e1 : x < b <;> by_cases d2 : c = 0 <;> (simp [*] <;> omega)) with k0 | ⟨k0, k1⟩ | ⟨k0, k1, k2⟩ | ⟨k0, k1, k2, k3⟩ | ⟨k0, k1, k2, k3⟩
  all_goals
    go_enter Tryz.func45, Tryz.ntmps45
    go_wp2_with (first | (go_at_call 72; refine (reg_any _ _).mono ?_; rintro e w' ⟨rfl, rfl⟩) | (go_at_call 73; refine (key_any _ _).mono ?_; rintro e w' ⟨rfl, rfl⟩))
    go_ret
    refine ⟨ret_bool ?_, (Below.refl _ _).alloc (Nat.le_refl _) _⟩
    simp [inB, *] <;> omega
theorem operands_11 (a b c x n : Int) (w : World) :
    Calls Tryz.prog 45 #[.agg #[.int .i64 11, .int .i64 a, .int .i64 b, .int .i64 c], .int .i64 x, .int .i64 n] w fun e w' => e = .returned (.bool (regB a && decide (b = 0) && decide (c = 0))) ∧ Below w.heap.size w w' := by
  rcases (show (regB a = false) ∨ (regB a = true ∧ ¬ b = 0) ∨ (regB a = true ∧ b = 0 ∧ ¬ c = 0) ∨ (regB a = true ∧ b = 0 ∧ c = 0) from by cases d0 : regB a <;> by_cases d1 : b = 0 <;> by_cases d2 : c = 0 <;> simp [*]) with k0 | ⟨k0, k1⟩ | ⟨k0, k1, k2⟩ | ⟨k0, k1, k2⟩
  all_goals
    go_enter Tryz.func45, Tryz.ntmps45
    go_wp2_with (first | (go_at_call 72; refine (reg_any _ _).mono ?_; rintro e w' ⟨rfl, rfl⟩) | (go_at_call 73; refine (key_any _ _).mono ?_; rintro e w' ⟨rfl, rfl⟩))
    go_ret
    refine ⟨ret_bool ?_, (Below.refl _ _).alloc (Nat.le_refl _) _⟩
    simp [*]
theorem operands_12 (a b c x n : Int) (w : World) :
    Calls Tryz.prog 45 #[.agg #[.int .i64 12, .int .i64 a, .int .i64 b, .int .i64 c], .int .i64 x, .int .i64 n] w fun e w' => e = .returned (.bool (decide (a = 0) && decide (b = 0) && decide (c = 0))) ∧ Below w.heap.size w w' := by
  rcases (show (¬ a = 0) ∨ (a = 0 ∧ ¬ b = 0) ∨ (a = 0 ∧ b = 0 ∧ ¬ c = 0) ∨ (a = 0 ∧ b = 0 ∧ c = 0) from by by_cases d0 : a = 0 <;> by_cases d1 : b = 0 <;> by_cases d2 : c = 0 <;> simp [*]) with k0 | ⟨k0, k1⟩ | ⟨k0, k1, k2⟩ | ⟨k0, k1, k2⟩
  all_goals
    go_enter Tryz.func45, Tryz.ntmps45
    go_wp2_with (first | (go_at_call 72; refine (reg_any _ _).mono ?_; rintro e w' ⟨rfl, rfl⟩) | (go_at_call 73; refine (key_any _ _).mono ?_; rintro e w' ⟨rfl, rfl⟩))
    go_ret
    refine ⟨ret_bool ?_, (Below.refl _ _).alloc (Nat.le_refl _) _⟩
    simp [*]
theorem operands_no (op a b c x n : Int) (w : World) (h : op < 1 ∨ 12 < op) :
    Calls Tryz.prog 45 #[.agg #[.int .i64 op, .int .i64 a, .int .i64 b, .int .i64 c], .int .i64 x, .int .i64 n] w fun e w' => e = .returned (.bool false) ∧ Below w.heap.size w w' := by
  rcases h with h | h
  all_goals
    go_enter Tryz.func45, Tryz.ntmps45
    go_wp2_with (first | (go_at_call 72; refine (reg_any _ _).mono ?_; rintro e w' ⟨rfl, rfl⟩) | (go_at_call 73; refine (key_any _ _).mono ?_; rintro e w' ⟨rfl, rfl⟩))
    go_ret
    exact ⟨rfl, (Below.refl _ _).alloc (Nat.le_refl _) _⟩
theorem isStep_any (op a b c x y : Int) (w : World) :
    Calls Tryz.prog 44 #[.agg #[.int .i64 op, .int .i64 a, .int .i64 b, .int .i64 c], .int .i64 x, .int .i64 y] w fun e w' => e = .returned (.bool (stepB op a b c x y)) ∧ Below w.heap.size w w' := by
  by_cases h1 : op = 1
  · subst h1; simpa [stepB] using isStep_1 a b c x y w
  by_cases h2 : op = 2
  · subst h2; simpa [stepB] using isStep_2 a b c x y w
  by_cases h3 : op = 3
  · subst h3; simpa [stepB] using isStep_3 a b c x y w
  by_cases h4 : op = 4
  · subst h4; simpa [stepB] using isStep_4 a b c x y w
  by_cases h5 : op = 5
  · subst h5; simpa [stepB] using isStep_5 a b c x y w
  by_cases h6 : op = 6
  · subst h6; simpa [stepB] using isStep_6 a b c x y w
  by_cases h7 : op = 7
  · subst h7; simpa [stepB] using isStep_7 a b c x y w
  by_cases h8 : op = 8
  · subst h8; simpa [stepB] using isStep_8 a b c x y w
  by_cases h9 : op = 9
  · subst h9; simpa [stepB] using isStep_9 a b c x y w
  by_cases h10 : op = 10
  · subst h10; simpa [stepB] using isStep_10 a b c x y w
  by_cases h11 : op = 11
  · subst h11; simpa [stepB] using isStep_11 a b c x y w
  by_cases h12 : op = 12
  · subst h12; simpa [stepB] using isStep_12 a b c x y w
  have e : stepB op a b c x y = false := by simp [stepB, *]
  rw [e]
  exact isStep_no op a b c x y w (by omega)
theorem operands_any (op a b c x n : Int) (w : World) (hx : 0 ≤ x) (hx1 : x ≤ 32) (hn : 0 ≤ n) (hn1 : n ≤ 32) :
    Calls Tryz.prog 45 #[.agg #[.int .i64 op, .int .i64 a, .int .i64 b, .int .i64 c], .int .i64 x, .int .i64 n] w fun e w' => e = .returned (.bool (stepB op a b c x (n - 1 - x))) ∧ Below w.heap.size w w' := by
  by_cases h1 : op = 1
  · subst h1; simpa [stepB] using operands_1 a b c x n w
  by_cases h2 : op = 2
  · subst h2; simpa [stepB] using operands_2 a b c x n w
  by_cases h3 : op = 3
  · subst h3; simpa [stepB] using operands_3 a b c x n w
  by_cases h4 : op = 4
  · subst h4; simpa [stepB] using operands_4 a b c x n w
  by_cases h5 : op = 5
  · subst h5; simpa [stepB] using operands_5 a b c x n w
  by_cases h6 : op = 6
  · subst h6; simpa [stepB] using operands_6 a b c x n w
  by_cases h7 : op = 7
  · subst h7; simpa [stepB] using operands_7 a b c x n w
  by_cases h8 : op = 8
  · subst h8; simpa [stepB] using operands_8 a b c x n w
  by_cases h9 : op = 9
  · subst h9; simpa [stepB] using operands_9 a b c x n w hx hx1 hn hn1
  by_cases h10 : op = 10
  · subst h10; simpa [stepB] using operands_10 a b c x n w
  by_cases h11 : op = 11
  · subst h11; simpa [stepB] using operands_11 a b c x n w
  by_cases h12 : op = 12
  · subst h12; simpa [stepB] using operands_12 a b c x n w
  have e : stepB op a b c x (n - 1 - x) = false := by simp [stepB, *]
  rw [e]
  exact operands_no op a b c x n w (by omega)
theorem check_at (b off cap : Nat) (l : List St) (w : World) (hl : l.length ≤ 32) (hb : b < w.heap.size) (hs : StepsAt w b off l) :
    Calls Tryz.prog 24 #[.slice (some ⟨b, off, none⟩) l.length cap] w fun e w' => e = .returned (.int .i64 (checkN l)) ∧ Below w.heap.size w w' := by
  obtain ⟨n, hn⟩ : ∃ n, n = l.length := ⟨_, rfl⟩
  have HN : Hid (n = l.length) := hn
  rw [← hn] at hl ⊢
  clear hn
  go_enter Tryz.func24, Tryz.ntmps24
  go_wp2
  go_loopw [10] (fun i wr => ∃ k : Nat, k ≤ n ∧ i = .int .i64 k ∧ (∀ j, j < k → stB (l.getD j stz) j l.length = true) ∧ Below w.heap.size w wr) (fun i _ => n - (intOf i).toNat)
  case atStart => exact ⟨0, Nat.zero_le _, rfl, fun j hj => absurd hj (Nat.not_lt_zero _), Below.refl _ _⟩
  case round =>
    obtain ⟨k, hk, rfl, hall, hbel⟩ := hrel
    by_cases hlt : k < n
    · have hlt' : k < l.length := by rw [← HN.out]; exact hlt
      obtain ⟨c0, c1, c2, c3⟩ := (hs.below hbel hb) k hlt'
      obtain ⟨s, hs'⟩ : ∃ s, s = l.getD k stz := ⟨_, rfl⟩
      rw [← hs'] at c0 c1 c2 c3
      have HS : Hid (s = l.getD k stz) := hs'
      have HA : Hid (∀ j, j < k → stB (l.getD j stz) j l.length = true) := hall
      clear hs' hall
      obtain ⟨op, a, b', c⟩ := s
      simp only at c0 c1 c2 c3
      have hstB : stB (l.getD k stz) k l.length = stepB op a b' c k ((n : Int) - 1 - k) := by rw [← HS.out, stB, ← HN.out]
      have HB : Hid (stB (l.getD k stz) k l.length = stepB op a b' c k ((n : Int) - 1 - k)) := hstB
      clear hstB
      cases hst : stepB op a b' c k ((n : Int) - 1 - k)
      · go_wp2_with (go_at_call 44; refine (isStep_any _ _ _ _ _ _ _).mono ?_; rintro e w' ⟨rfl, hb1⟩)
        go_ret
        exact ⟨ret_int (checkN_bad hlt' (HB.out.trans hst)).symm, (hbel.alloc hbel.size _).trans (hb1.mono (by simp; have := hbel.size; omega))⟩
      · go_wp2_with (go_at_call 44; refine (isStep_any _ _ _ _ _ _ _).mono ?_; rintro e w' ⟨rfl, hb1⟩)
        go_roundw
        case rel =>
          refine ⟨k + 1, by omega, by go_num, fun j hj => ?_, (hbel.alloc hbel.size _).trans (hb1.mono (by simp; have := hbel.size; omega))⟩
          by_cases hjk : j = k
          · subst hjk; exact HB.out.trans hst
          · exact HA.out j (by omega)
        case measure => simp [intOf]; omega
    · have HA : Hid (∀ j, j < k → stB (l.getD j stz) j l.length = true) := hall
      clear hall
      go_wp2
      go_ret
      exact ⟨ret_int (checkN_good (by rw [← HN.out]; exact hl) (fun j hj => HA.out j (by have := HN.out; omega))).symm, hbel⟩
theorem check_long (ao : Option Addr) (n cap : Nat) (w : World) (hl : 32 < n) :
    Calls Tryz.prog 24 #[.slice ao n cap] w fun e w' => e = .returned (.int .i64 1) ∧ w' = w := by
  go_enter Tryz.func24, Tryz.ntmps24
  go_wp2
  go_ret
  exact ⟨rfl, rfl⟩
theorem check_none (ao : Option Addr) (cap : Nat) (w : World) :
    Calls Tryz.prog 24 #[.slice ao 0 cap] w fun e w' => e = .returned (.int .i64 0) ∧ w' = w := by
  go_enter Tryz.func24, Tryz.ntmps24
  go_wp2
  go_loop [10] (fun i => i = .int .i64 0) (fun _ => 0)
  case atStart => rfl
  case round =>
    subst hrel
    go_wp2
    go_ret
    exact ⟨rfl, rfl⟩
theorem checkN_nil : checkN [] = 0 := by decide
theorem check_any (v : Value) (l : List St) (w : World) (h : StepsV w v l) :
    Calls Tryz.prog 24 #[v] w fun e w' => e = .returned (.int .i64 (checkN l)) ∧ Below w.heap.size w w' := by
  obtain ⟨ao, cap, rfl, h⟩ := h
  by_cases hl : l.length ≤ 32
  · rcases h with rfl | ⟨b, off, rfl, hb, hs⟩
    · refine (check_none ao cap w).mono fun e w' ⟨he, hw⟩ => ?_
      subst hw
      exact ⟨he.trans (ret_int checkN_nil.symm), Below.refl _ _⟩
    · exact check_at b off cap l w hl hb hs
  · refine (check_long ao _ cap w (by omega)).mono fun e w' ⟨he, hw⟩ => ?_
    subst hw
    exact ⟨he.trans (ret_int (checkN_long (by omega)).symm), Below.refl _ _⟩
theorem refCheck_at (b off cap : Nat) (l : List St) (w : World) (hl : l.length ≤ 32) (hb : b < w.heap.size) (hs : StepsAt w b off l) :
    Calls Tryz.prog 25 #[.slice (some ⟨b, off, none⟩) l.length cap] w fun e w' => e = .returned (.int .i64 (checkN l)) ∧ Below w.heap.size w w' := by
  obtain ⟨n, hn⟩ : ∃ n, n = l.length := ⟨_, rfl⟩
  have HN : Hid (n = l.length) := hn
  rw [← hn] at hl ⊢
  clear hn
  go_enter Tryz.func25, Tryz.ntmps25
  go_wp2
  go_loopw [3] (fun i wr => ∃ k : Nat, k ≤ n ∧ i = .int .i64 k ∧ (∀ j, j < k → stB (l.getD j stz) j l.length = true) ∧ Below w.heap.size w wr) (fun i _ => n - (intOf i).toNat)
  case atStart => exact ⟨0, Nat.zero_le _, rfl, fun j hj => absurd hj (Nat.not_lt_zero _), Below.refl _ _⟩
  case round =>
    obtain ⟨k, hk, rfl, hall, hbel⟩ := hrel
    by_cases hlt : k < n
    · have hlt' : k < l.length := by rw [← HN.out]; exact hlt
      obtain ⟨c0, c1, c2, c3⟩ := (hs.below hbel hb) k hlt'
      obtain ⟨s, hs'⟩ : ∃ s, s = l.getD k stz := ⟨_, rfl⟩
      rw [← hs'] at c0 c1 c2 c3
      have HS : Hid (s = l.getD k stz) := hs'
      have HA : Hid (∀ j, j < k → stB (l.getD j stz) j l.length = true) := hall
      clear hs' hall
      obtain ⟨op, a, b', c⟩ := s
      simp only at c0 c1 c2 c3
      have hstB : stB (l.getD k stz) k l.length = stepB op a b' c k ((n : Int) - 1 - k) := by rw [← HS.out, stB, ← HN.out]
      have HB : Hid (stB (l.getD k stz) k l.length = stepB op a b' c k ((n : Int) - 1 - k)) := hstB
      clear hstB
      cases hst : stepB op a b' c k ((n : Int) - 1 - k)
      · go_wp2_with (go_at_call 45; refine (operands_any _ _ _ _ _ _ _ (by omega) (by omega) (by omega) (by omega)).mono ?_; rintro e w' ⟨rfl, hb1⟩)
        go_ret
        exact ⟨ret_int (checkN_bad hlt' (HB.out.trans hst)).symm, hbel.trans (hb1.mono hbel.size)⟩
      · go_wp2_with (go_at_call 45; refine (operands_any _ _ _ _ _ _ _ (by omega) (by omega) (by omega) (by omega)).mono ?_; rintro e w' ⟨rfl, hb1⟩)
        go_roundw
        case rel =>
          refine ⟨k + 1, by omega, by go_num, fun j hj => ?_, hbel.trans (hb1.mono hbel.size)⟩
          by_cases hjk : j = k
          · subst hjk; exact HB.out.trans hst
          · exact HA.out j (by omega)
        case measure => simp [intOf]; omega
    · have HA : Hid (∀ j, j < k → stB (l.getD j stz) j l.length = true) := hall
      clear hall
      go_wp2
      go_ret
      exact ⟨ret_int (checkN_good (by rw [← HN.out]; exact hl) (fun j hj => HA.out j (by have := HN.out; omega))).symm, hbel⟩
theorem refCheck_long (ao : Option Addr) (n cap : Nat) (w : World) (hl : 32 < n) :
    Calls Tryz.prog 25 #[.slice ao n cap] w fun e w' => e = .returned (.int .i64 1) ∧ w' = w := by
  go_enter Tryz.func25, Tryz.ntmps25
  go_wp2
  go_ret
  exact ⟨rfl, rfl⟩
theorem refCheck_none (ao : Option Addr) (cap : Nat) (w : World) :
    Calls Tryz.prog 25 #[.slice ao 0 cap] w fun e w' => e = .returned (.int .i64 0) ∧ w' = w := by
  go_enter Tryz.func25, Tryz.ntmps25
  go_wp2
  go_loop [3] (fun i => i = .int .i64 0) (fun _ => 0)
  case atStart => rfl
  case round =>
    subst hrel
    go_wp2
    go_ret
    exact ⟨rfl, rfl⟩
theorem refCheck_any (v : Value) (l : List St) (w : World) (h : StepsV w v l) :
    Calls Tryz.prog 25 #[v] w fun e w' => e = .returned (.int .i64 (checkN l)) ∧ Below w.heap.size w w' := by
  obtain ⟨ao, cap, rfl, h⟩ := h
  by_cases hl : l.length ≤ 32
  · rcases h with rfl | ⟨b, off, rfl, hb, hs⟩
    · refine (refCheck_none ao cap w).mono fun e w' ⟨he, hw⟩ => ?_
      subst hw
      exact ⟨he.trans (ret_int checkN_nil.symm), Below.refl _ _⟩
    · exact refCheck_at b off cap l w hl hb hs
  · refine (refCheck_long ao _ cap w (by omega)).mono fun e w' ⟨he, hw⟩ => ?_
    subst hw
    exact ⟨he.trans (ret_int (checkN_long (by omega)).symm), Below.refl _ _⟩
end Go.Proofs.YtlbmcdoldnajoaaGreat
