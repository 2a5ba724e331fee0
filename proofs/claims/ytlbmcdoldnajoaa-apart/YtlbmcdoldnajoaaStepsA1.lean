import Derived.Test.YtlbmcdoldnajoaaDoesLaw
import Derived.Deep.LoopGhost
import Derived.Test.YtlbmcdoldnajoaaFrame

namespace Go.Proofs.Ytlbmcdoldnajoaa
open Go.RowKit
theorem play_zero (l : List St) (m : Int → Int) (x : Mo) : play l m 0 x = x := rfl
theorem play_go {l : List St} {m : Int → Int} {n : Nat} {x : Mo} (h : x.fin = 0 ∧ x.pc < l.length) : play l m (n + 1) x = play l m n (stp (l.getD x.pc stz) m x) := by rw [play, if_pos h]
theorem play_end {l : List St} {m : Int → Int} {n : Nat} {x : Mo} (h : ¬ (x.fin = 0 ∧ x.pc < l.length)) : play l m n x = x := by
  cases n with
  | zero => rfl
  | succ n => rw [play, if_neg h]
theorem jobB_at {l : List St} (h : jobB l = true) : l.length ≤ 32 ∧ ∀ i, i < l.length → stB (l.getD i stz) i l.length = true := by
  simp only [jobB, Bool.and_eq_true, decide_eq_true_eq, List.all_eq_true, List.mem_range] at h
  exact h
theorem owns_ge {w : World} {base : Nat} {e : TypeId} {size : Nat} {v : Value} {n : Nat} {xs : List Value} (h : w.ownsRow base e size v n xs) {k : Nat} (hk : v.ownBlock = some k) : base ≤ k := by
  rcases h.2 with ⟨rfl, _⟩ | ⟨g, cap, cur, rfl, hb, _⟩
  · cases hk
  · injection hk with hk
    have e : g = k := hk
    omega
end Go.Proofs.Ytlbmcdoldnajoaa

namespace Go.Proofs.Ytlbmcdoldnajoaa
open Go.RowKit
def accL (f : Int → Int) (j : Nat) : List (Int × Int) := (List.range j).filterMap fun k : Nat => if 0 ≤ f k then some ((k : Int), f k) else none
theorem accL_succ (f : Int → Int) (j : Nat) : accL f (j + 1) = accL f j ++ if 0 ≤ f j then [((j : Int), f j)] else [] := by
  unfold accL
  rw [List.range_succ, List.filterMap_append]
  congr 1
  by_cases h : 0 ≤ f j <;> simp [h]
theorem accL_len (f : Int → Int) (j : Nat) : (accL f j).length ≤ j := by
  have := List.length_filterMap_le (fun k : Nat => if 0 ≤ f k then some ((k : Int), f k) else none) (List.range j)
  simpa [accL] using this
theorem listOf_acc (f : Int → Int) : listOf f = accL f 16 := rfl
/-- what 'After' hands back -/
def Aftered (f : Int → Int) (w : World) (e : Ending) (w' : World) : Prop := ∃ v, e = .returned v ∧ w'.ownsRow w.heap.size 42 2 v (listOf f).length (prCells (listOf f)) ∧ Below w.heap.size w w'
/-- what is known when the inner loop of 'After' is done: the rest of the round -/
def AfterRel (f : Int → Int) (w : World) (j : Nat) (out : Value) (wr : World) : Prop := wr.ownsRow w.heap.size 42 2 out (accL f j).length (prCells (accL f j)) ∧ Below w.heap.size w wr
end Go.Proofs.Ytlbmcdoldnajoaa

namespace Go.Proofs.Ytlbmcdoldnajoaa
open Go.RowKit
set_option maxRecDepth 100000 in
set_option maxHeartbeats 1000000 in
theorem isStep_1 (a b c x y : Int) (w : World) :
    Calls Try.prog 78 #[.agg #[.int .i64 1, .int .i64 a, .int .i64 b, .int .i64 c], .int .i64 x, .int .i64 y] w fun e w' => e = .returned (.bool (regB a && inB b 0 999 && decide (c = 0))) ∧ Below w.heap.size w w' := by
  rcases (show (regB a = false) ∨ (regB a = true ∧ inB b 0 999 = false) ∨ (regB a = true ∧ inB b 0 999 = true ∧ ¬ c = 0) ∨ (regB a = true ∧ inB b 0 999 = true ∧ c = 0) from by cases d0 : regB a <;> cases d1 : inB b 0 999 <;> by_cases d2 : c = 0 <;> simp [*]) with k0 | ⟨k0, k1⟩ | ⟨k0, k1, k2⟩ | ⟨k0, k1, k2⟩
  all_goals
    go_enter Try.func78, Try.ntmps78
    go_wp2_with (first | (go_at_call 102; refine (isRegister_any _ _).mono ?_; rintro e w' ⟨rfl, rfl⟩) | (go_at_call 103; refine (isKey_any _ _).mono ?_; rintro e w' ⟨rfl, rfl⟩) | (go_at_call 58; refine (isWithin_any _ _ _ _).mono ?_; rintro e w' ⟨rfl, rfl⟩))
    go_ret
    refine ⟨ret_bool ?_, (Below.refl _ _).alloc (Nat.le_refl _) _⟩
    simp [*]
set_option maxRecDepth 100000 in
set_option maxHeartbeats 1000000 in
theorem isStep_2 (a b c x y : Int) (w : World) :
    Calls Try.prog 78 #[.agg #[.int .i64 2, .int .i64 a, .int .i64 b, .int .i64 c], .int .i64 x, .int .i64 y] w fun e w' => e = .returned (.bool (regB a && keyB b && decide (c = 0))) ∧ Below w.heap.size w w' := by
  rcases (show (regB a = false) ∨ (regB a = true ∧ keyB b = false) ∨ (regB a = true ∧ keyB b = true ∧ ¬ c = 0) ∨ (regB a = true ∧ keyB b = true ∧ c = 0) from by cases d0 : regB a <;> cases d1 : keyB b <;> by_cases d2 : c = 0 <;> simp [*]) with k0 | ⟨k0, k1⟩ | ⟨k0, k1, k2⟩ | ⟨k0, k1, k2⟩
  all_goals
    go_enter Try.func78, Try.ntmps78
    go_wp2_with (first | (go_at_call 102; refine (isRegister_any _ _).mono ?_; rintro e w' ⟨rfl, rfl⟩) | (go_at_call 103; refine (isKey_any _ _).mono ?_; rintro e w' ⟨rfl, rfl⟩) | (go_at_call 58; refine (isWithin_any _ _ _ _).mono ?_; rintro e w' ⟨rfl, rfl⟩))
    go_ret
    refine ⟨ret_bool ?_, (Below.refl _ _).alloc (Nat.le_refl _) _⟩
    simp [*]
set_option maxRecDepth 100000 in
set_option maxHeartbeats 1000000 in
theorem isStep_3 (a b c x y : Int) (w : World) :
    Calls Try.prog 78 #[.agg #[.int .i64 3, .int .i64 a, .int .i64 b, .int .i64 c], .int .i64 x, .int .i64 y] w fun e w' => e = .returned (.bool (keyB a && regB b && decide (c = 0))) ∧ Below w.heap.size w w' := by
  rcases (show (keyB a = false) ∨ (keyB a = true ∧ regB b = false) ∨ (keyB a = true ∧ regB b = true ∧ ¬ c = 0) ∨ (keyB a = true ∧ regB b = true ∧ c = 0) from by cases d0 : keyB a <;> cases d1 : regB b <;> by_cases d2 : c = 0 <;> simp [*]) with k0 | ⟨k0, k1⟩ | ⟨k0, k1, k2⟩ | ⟨k0, k1, k2⟩
  all_goals
    go_enter Try.func78, Try.ntmps78
    go_wp2_with (first | (go_at_call 102; refine (isRegister_any _ _).mono ?_; rintro e w' ⟨rfl, rfl⟩) | (go_at_call 103; refine (isKey_any _ _).mono ?_; rintro e w' ⟨rfl, rfl⟩) | (go_at_call 58; refine (isWithin_any _ _ _ _).mono ?_; rintro e w' ⟨rfl, rfl⟩))
    go_ret
    refine ⟨ret_bool ?_, (Below.refl _ _).alloc (Nat.le_refl _) _⟩
    simp [*]
set_option maxRecDepth 100000 in
set_option maxHeartbeats 1000000 in
theorem isStep_4 (a b c x y : Int) (w : World) :
    Calls Try.prog 78 #[.agg #[.int .i64 4, .int .i64 a, .int .i64 b, .int .i64 c], .int .i64 x, .int .i64 y] w fun e w' => e = .returned (.bool (keyB a && decide (b = 0) && decide (c = 0))) ∧ Below w.heap.size w w' := by
  rcases (show (keyB a = false) ∨ (keyB a = true ∧ ¬ b = 0) ∨ (keyB a = true ∧ b = 0 ∧ ¬ c = 0) ∨ (keyB a = true ∧ b = 0 ∧ c = 0) from by cases d0 : keyB a <;> by_cases d1 : b = 0 <;> by_cases d2 : c = 0 <;> simp [*]) with k0 | ⟨k0, k1⟩ | ⟨k0, k1, k2⟩ | ⟨k0, k1, k2⟩
  all_goals
    go_enter Try.func78, Try.ntmps78
    go_wp2_with (first | (go_at_call 102; refine (isRegister_any _ _).mono ?_; rintro e w' ⟨rfl, rfl⟩) | (go_at_call 103; refine (isKey_any _ _).mono ?_; rintro e w' ⟨rfl, rfl⟩) | (go_at_call 58; refine (isWithin_any _ _ _ _).mono ?_; rintro e w' ⟨rfl, rfl⟩))
    go_ret
    refine ⟨ret_bool ?_, (Below.refl _ _).alloc (Nat.le_refl _) _⟩
    simp [*]
set_option maxRecDepth 100000 in
set_option maxHeartbeats 1000000 in
theorem isStep_5 (a b c x y : Int) (w : World) :
    Calls Try.prog 78 #[.agg #[.int .i64 5, .int .i64 a, .int .i64 b, .int .i64 c], .int .i64 x, .int .i64 y] w fun e w' => e = .returned (.bool (regB a && keyB b && keyB c && decide (b ≤ c))) ∧ Below w.heap.size w w' := by
  rcases (show (regB a = false) ∨ (regB a = true ∧ keyB b = false) ∨ (regB a = true ∧ keyB b = true ∧ keyB c = false) ∨ (regB a = true ∧ keyB b = true ∧ keyB c = true ∧ ¬ b ≤ c) ∨ (regB a = true ∧ keyB b = true ∧ keyB c = true ∧ b ≤ c) from by cases d0 : regB a <;> cases d1 : keyB b <;> cases d2 : keyB c <;> by_cases d3 : b ≤ c <;> simp [*]) with k0 | ⟨k0, k1⟩ | ⟨k0, k1, k2⟩ | ⟨k0, k1, k2, k3⟩ | ⟨k0, k1, k2, k3⟩
  all_goals
    go_enter Try.func78, Try.ntmps78
    go_wp2_with (first | (go_at_call 102; refine (isRegister_any _ _).mono ?_; rintro e w' ⟨rfl, rfl⟩) | (go_at_call 103; refine (isKey_any _ _).mono ?_; rintro e w' ⟨rfl, rfl⟩) | (go_at_call 58; refine (isWithin_any _ _ _ _).mono ?_; rintro e w' ⟨rfl, rfl⟩))
    go_ret
    refine ⟨ret_bool ?_, (Below.refl _ _).alloc (Nat.le_refl _) _⟩
    simp [*]
set_option maxRecDepth 100000 in
set_option maxHeartbeats 1000000 in
theorem isStep_6 (a b c x y : Int) (w : World) :
    Calls Try.prog 78 #[.agg #[.int .i64 6, .int .i64 a, .int .i64 b, .int .i64 c], .int .i64 x, .int .i64 y] w fun e w' => e = .returned (.bool (regB a && keyB b && keyB c && decide (b ≤ c))) ∧ Below w.heap.size w w' := by
  rcases (show (regB a = false) ∨ (regB a = true ∧ keyB b = false) ∨ (regB a = true ∧ keyB b = true ∧ keyB c = false) ∨ (regB a = true ∧ keyB b = true ∧ keyB c = true ∧ ¬ b ≤ c) ∨ (regB a = true ∧ keyB b = true ∧ keyB c = true ∧ b ≤ c) from by cases d0 : regB a <;> cases d1 : keyB b <;> cases d2 : keyB c <;> by_cases d3 : b ≤ c <;> simp [*]) with k0 | ⟨k0, k1⟩ | ⟨k0, k1, k2⟩ | ⟨k0, k1, k2, k3⟩ | ⟨k0, k1, k2, k3⟩
  all_goals
    go_enter Try.func78, Try.ntmps78
    go_wp2_with (first | (go_at_call 102; refine (isRegister_any _ _).mono ?_; rintro e w' ⟨rfl, rfl⟩) | (go_at_call 103; refine (isKey_any _ _).mono ?_; rintro e w' ⟨rfl, rfl⟩) | (go_at_call 58; refine (isWithin_any _ _ _ _).mono ?_; rintro e w' ⟨rfl, rfl⟩))
    go_ret
    refine ⟨ret_bool ?_, (Below.refl _ _).alloc (Nat.le_refl _) _⟩
    simp [*]
end Go.Proofs.Ytlbmcdoldnajoaa
