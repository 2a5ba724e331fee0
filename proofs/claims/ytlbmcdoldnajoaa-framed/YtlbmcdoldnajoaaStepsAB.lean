/- The walks of 'may a step stand here', whole. -/
import Derived.Test.YtlbmcdoldnajoaaStepsA1
import Derived.Test.YtlbmcdoldnajoaaStepsA2
import Derived.Test.YtlbmcdoldnajoaaStepsB1
import Derived.Test.YtlbmcdoldnajoaaStepsB2
namespace Go.Proofs.Ytlbmcdoldnajoaa
open Go.RowKit

theorem isStep_any (op a b c x y : Int) (w : World) :
    Calls Try.prog 78 #[.agg #[.int .i64 op, .int .i64 a, .int .i64 b, .int .i64 c], .int .i64 x, .int .i64 y] w fun e w' => e = .returned (.bool (stepB op a b c x y)) ∧ Below w.heap.size w w' := by
  by_cases h1 : op = 1
  · subst h1; simpa [stepB] using isStep_1 a b c x y w
  by_cases h2 : op = 2
  · subst h2; simpa [stepB] using isStep_2 a b c x y w
  by_cases h3 : op = 3
  · subst h3; simpa [stepB] using isStep_3 a b c x y w
  by_cases h4 : op = 4
  · subst h4; simpa [stepB] using isStep_4 a b c x y w
  by_cases h5 : op = 5
  · subst h5; simpa [stepB] using isStep_5 a b c x y w
  by_cases h6 : op = 6
  · subst h6; simpa [stepB] using isStep_6 a b c x y w
  by_cases h7 : op = 7
  · subst h7; simpa [stepB] using isStep_7 a b c x y w
  by_cases h8 : op = 8
  · subst h8; simpa [stepB] using isStep_8 a b c x y w
  by_cases h9 : op = 9
  · subst h9; simpa [stepB] using isStep_9 a b c x y w
  by_cases h10 : op = 10
  · subst h10; simpa [stepB] using isStep_10 a b c x y w
  by_cases h11 : op = 11
  · subst h11; simpa [stepB] using isStep_11 a b c x y w
  by_cases h12 : op = 12
  · subst h12; simpa [stepB] using isStep_12 a b c x y w
  have e : stepB op a b c x y = false := by simp [stepB, *]
  rw [e]
  exact isStep_no op a b c x y w (by omega)

theorem operands_any (op a b c x n : Int) (w : World) (hx : 0 ≤ x) (hx1 : x ≤ 32) (hn : 0 ≤ n) (hn1 : n ≤ 32) :
    Calls Try.prog 79 #[.agg #[.int .i64 op, .int .i64 a, .int .i64 b, .int .i64 c], .int .i64 x, .int .i64 n] w fun e w' => e = .returned (.bool (stepB op a b c x (n - 1 - x))) ∧ Below w.heap.size w w' := by
  by_cases h1 : op = 1
  · subst h1; simpa [stepB] using operands_1 a b c x n w
  by_cases h2 : op = 2
  · subst h2; simpa [stepB] using operands_2 a b c x n w
  by_cases h3 : op = 3
  · subst h3; simpa [stepB] using operands_3 a b c x n w
  by_cases h4 : op = 4
  · subst h4; simpa [stepB] using operands_4 a b c x n w
  by_cases h5 : op = 5
  · subst h5; simpa [stepB] using operands_5 a b c x n w
  by_cases h6 : op = 6
  · subst h6; simpa [stepB] using operands_6 a b c x n w
  by_cases h7 : op = 7
  · subst h7; simpa [stepB] using operands_7 a b c x n w
  by_cases h8 : op = 8
  · subst h8; simpa [stepB] using operands_8 a b c x n w
  by_cases h9 : op = 9
  · subst h9; simpa [stepB] using operands_9 a b c x n w hx hx1 hn hn1
  by_cases h10 : op = 10
  · subst h10; simpa [stepB] using operands_10 a b c x n w
  by_cases h11 : op = 11
  · subst h11; simpa [stepB] using operands_11 a b c x n w
  by_cases h12 : op = 12
  · subst h12; simpa [stepB] using operands_12 a b c x n w
  have e : stepB op a b c x (n - 1 - x) = false := by simp [stepB, *]
  rw [e]
  exact operands_no op a b c x n w (by omega)

end Go.Proofs.Ytlbmcdoldnajoaa
