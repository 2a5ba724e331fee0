import Derived.Test.YtlbmcdoldnajoabFrame
import Derived.Test.YtlbmcdoldnajoabStepsA1
import Derived.Test.YtlbmcdoldnajoabDoesLaw
import Derived.Deep.RegionWith

namespace Go.Proofs.Ytlbmcdoldnajoab
open Go.RowKit
set_option maxRecDepth 100000 in
set_option maxHeartbeats 1000000 in
theorem isStep_7 (a b c x y : Int) (w : World) :
    Calls Try.prog 38 #[.agg #[.int .i64 7, .int .i64 a, .int .i64 b, .int .i64 c], .int .i64 x, .int .i64 y] w fun e w' => e = .returned (.bool (regB a && regB b && decide (c = 0))) ∧ Below w.heap.size w w' := by
  rcases (show (regB a = false) ∨ (regB a = true ∧ regB b = false) ∨ (regB a = true ∧ regB b = true ∧ ¬ c = 0) ∨ (regB a = true ∧ regB b = true ∧ c = 0) from by cases d0 : regB a <;> cases d1 : regB b <;> by_cases d2 : c = 0 <;> simp [*]) with k0 | ⟨k0, k1⟩ | ⟨k0, k1, k2⟩ | ⟨k0, k1, k2⟩
  all_goals
    go_enter Try.func38, Try.ntmps38
    go_wp2_with (first | (go_at_call 55; refine (isRegister_any _ _).mono ?_; rintro e w' ⟨rfl, rfl⟩) | (go_at_call 56; refine (isKey_any _ _).mono ?_; rintro e w' ⟨rfl, rfl⟩) | (go_at_call 20; refine (isWithin_any _ _ _ _).mono ?_; rintro e w' ⟨rfl, rfl⟩))
    go_ret
    refine ⟨ret_bool ?_, (Below.refl _ _).alloc (Nat.le_refl _) _⟩
    simp [*]
set_option maxRecDepth 100000 in
set_option maxHeartbeats 1000000 in
theorem isStep_8 (a b c x y : Int) (w : World) :
    Calls Try.prog 38 #[.agg #[.int .i64 8, .int .i64 a, .int .i64 b, .int .i64 c], .int .i64 x, .int .i64 y] w fun e w' => e = .returned (.bool (regB a && regB b && decide (c = 0))) ∧ Below w.heap.size w w' := by
  rcases (show (regB a = false) ∨ (regB a = true ∧ regB b = false) ∨ (regB a = true ∧ regB b = true ∧ ¬ c = 0) ∨ (regB a = true ∧ regB b = true ∧ c = 0) from by cases d0 : regB a <;> cases d1 : regB b <;> by_cases d2 : c = 0 <;> simp [*]) with k0 | ⟨k0, k1⟩ | ⟨k0, k1, k2⟩ | ⟨k0, k1, k2⟩
  all_goals
    go_enter Try.func38, Try.ntmps38
    go_wp2_with (first | (go_at_call 55; refine (isRegister_any _ _).mono ?_; rintro e w' ⟨rfl, rfl⟩) | (go_at_call 56; refine (isKey_any _ _).mono ?_; rintro e w' ⟨rfl, rfl⟩) | (go_at_call 20; refine (isWithin_any _ _ _ _).mono ?_; rintro e w' ⟨rfl, rfl⟩))
    go_ret
    refine ⟨ret_bool ?_, (Below.refl _ _).alloc (Nat.le_refl _) _⟩
    simp [*]
set_option maxRecDepth 100000 in
set_option maxHeartbeats 1000000 in
theorem isStep_9 (a b c x y : Int) (w : World) :
    Calls Try.prog 38 #[.agg #[.int .i64 9, .int .i64 a, .int .i64 b, .int .i64 c], .int .i64 x, .int .i64 y] w fun e w' => e = .returned (.bool (regB a && inB b 1 y && decide (c = 0))) ∧ Below w.heap.size w w' := by
  rcases (show (regB a = false) ∨ (regB a = true ∧ inB b 1 y = false) ∨ (regB a = true ∧ inB b 1 y = true ∧ ¬ c = 0) ∨ (regB a = true ∧ inB b 1 y = true ∧ c = 0) from by cases d0 : regB a <;> cases d1 : inB b 1 y <;> by_cases d2 : c = 0 <;> simp [*]) with k0 | ⟨k0, k1⟩ | ⟨k0, k1, k2⟩ | ⟨k0, k1, k2⟩
  all_goals
    go_enter Try.func38, Try.ntmps38
    go_wp2_with (first | (go_at_call 55; refine (isRegister_any _ _).mono ?_; rintro e w' ⟨rfl, rfl⟩) | (go_at_call 56; refine (isKey_any _ _).mono ?_; rintro e w' ⟨rfl, rfl⟩) | (go_at_call 20; refine (isWithin_any _ _ _ _).mono ?_; rintro e w' ⟨rfl, rfl⟩))
    go_ret
    refine ⟨ret_bool ?_, (Below.refl _ _).alloc (Nat.le_refl _) _⟩
    simp [*]
set_option maxRecDepth 100000 in
set_option maxHeartbeats 1000000 in
theorem isStep_10 (a b c x y : Int) (w : World) :
    Calls Try.prog 38 #[.agg #[.int .i64 10, .int .i64 a, .int .i64 b, .int .i64 c], .int .i64 x, .int .i64 y] w fun e w' => e = .returned (.bool (regB a && inB b 1 x && decide (c = 0))) ∧ Below w.heap.size w w' := by
  rcases (show (regB a = false) ∨ (regB a = true ∧ inB b 1 x = false) ∨ (regB a = true ∧ inB b 1 x = true ∧ ¬ c = 0) ∨ (regB a = true ∧ inB b 1 x = true ∧ c = 0) from by cases d0 : regB a <;> cases d1 : inB b 1 x <;> by_cases d2 : c = 0 <;> simp [*]) with k0 | ⟨k0, k1⟩ | ⟨k0, k1, k2⟩ | ⟨k0, k1, k2⟩
  all_goals
    go_enter Try.func38, Try.ntmps38
    go_wp2_with (first | (go_at_call 55; refine (isRegister_any _ _).mono ?_; rintro e w' ⟨rfl, rfl⟩) | (go_at_call 56; refine (isKey_any _ _).mono ?_; rintro e w' ⟨rfl, rfl⟩) | (go_at_call 20; refine (isWithin_any _ _ _ _).mono ?_; rintro e w' ⟨rfl, rfl⟩))
    go_ret
    refine ⟨ret_bool ?_, (Below.refl _ _).alloc (Nat.le_refl _) _⟩
    simp [*]
set_option maxRecDepth 100000 in
set_option maxHeartbeats 1000000 in
theorem isStep_11 (a b c x y : Int) (w : World) :
    Calls Try.prog 38 #[.agg #[.int .i64 11, .int .i64 a, .int .i64 b, .int .i64 c], .int .i64 x, .int .i64 y] w fun e w' => e = .returned (.bool (regB a && decide (b = 0) && decide (c = 0))) ∧ Below w.heap.size w w' := by
  rcases (show (regB a = false) ∨ (regB a = true ∧ ¬ b = 0) ∨ (regB a = true ∧ b = 0 ∧ ¬ c = 0) ∨ (regB a = true ∧ b = 0 ∧ c = 0) from by cases d0 : regB a <;> by_cases d1 : b = 0 <;> by_cases d2 : c = 0 <;> simp [*]) with k0 | ⟨k0, k1⟩ | ⟨k0, k1, k2⟩ | ⟨k0, k1, k2⟩
  all_goals
    go_enter Try.func38, Try.ntmps38
    go_wp2_with (first | (go_at_call 55; refine (isRegister_any _ _).mono ?_; rintro e w' ⟨rfl, rfl⟩) | (go_at_call 56; refine (isKey_any _ _).mono ?_; rintro e w' ⟨rfl, rfl⟩) | (go_at_call 20; refine (isWithin_any _ _ _ _).mono ?_; rintro e w' ⟨rfl, rfl⟩))
    go_ret
    refine ⟨ret_bool ?_, (Below.refl _ _).alloc (Nat.le_refl _) _⟩
    simp [*]
set_option maxRecDepth 100000 in
set_option maxHeartbeats 1000000 in
theorem isStep_12 (a b c x y : Int) (w : World) :
    Calls Try.prog 38 #[.agg #[.int .i64 12, .int .i64 a, .int .i64 b, .int .i64 c], .int .i64 x, .int .i64 y] w fun e w' => e = .returned (.bool (decide (a = 0) && decide (b = 0) && decide (c = 0))) ∧ Below w.heap.size w w' := by
  rcases (show (¬ a = 0) ∨ (a = 0 ∧ ¬ b = 0) ∨ (a = 0 ∧ b = 0 ∧ ¬ c = 0) ∨ (a = 0 ∧ b = 0 ∧ c = 0) from by by_cases d0 : a = 0 <;> by_cases d1 : b = 0 <;> by_cases d2 : c = 0 <;> simp [*]) with k0 | ⟨k0, k1⟩ | ⟨k0, k1, k2⟩ | ⟨k0, k1, k2⟩
  all_goals
    go_enter Try.func38, Try.ntmps38
    go_wp2_with (first | (go_at_call 55; refine (isRegister_any _ _).mono ?_; rintro e w' ⟨rfl, rfl⟩) | (go_at_call 56; refine (isKey_any _ _).mono ?_; rintro e w' ⟨rfl, rfl⟩) | (go_at_call 20; refine (isWithin_any _ _ _ _).mono ?_; rintro e w' ⟨rfl, rfl⟩))
    go_ret
    refine ⟨ret_bool ?_, (Below.refl _ _).alloc (Nat.le_refl _) _⟩
    simp [*]
set_option maxRecDepth 100000 in
set_option maxHeartbeats 1000000 in
theorem isStep_no (op a b c x y : Int) (w : World) (h : op < 1 ∨ 12 < op) :
    Calls Try.prog 38 #[.agg #[.int .i64 op, .int .i64 a, .int .i64 b, .int .i64 c], .int .i64 x, .int .i64 y] w fun e w' => e = .returned (.bool false) ∧ Below w.heap.size w w' := by
  rcases h with h | h
  all_goals
    go_enter Try.func38, Try.ntmps38
    go_wp2_with (first | (go_at_call 55; refine (isRegister_any _ _).mono ?_; rintro e w' ⟨rfl, rfl⟩) | (go_at_call 56; refine (isKey_any _ _).mono ?_; rintro e w' ⟨rfl, rfl⟩) | (go_at_call 20; refine (isWithin_any _ _ _ _).mono ?_; rintro e w' ⟨rfl, rfl⟩))
    go_ret
    exact ⟨rfl, (Below.refl _ _).alloc (Nat.le_refl _) _⟩
end Go.Proofs.Ytlbmcdoldnajoab
namespace Go.Proofs.Ytlbmcdoldnajoab
open Go.RowKit
theorem isStep_any (op a b c x y : Int) (w : World) :
    Calls Try.prog 38 #[.agg #[.int .i64 op, .int .i64 a, .int .i64 b, .int .i64 c], .int .i64 x, .int .i64 y] w fun e w' => e = .returned (.bool (stepB op a b c x y)) ∧ Below w.heap.size w w' := by
  by_cases h1 : op = 1
  · subst h1; simpa [stepB] using isStep_1 a b c x y w
  by_cases h2 : op = 2
  · subst h2; simpa [stepB] using isStep_2 a b c x y w
  by_cases h3 : op = 3
  · subst h3; simpa [stepB] using isStep_3 a b c x y w
  by_cases h4 : op = 4
  · subst h4; simpa [stepB] using isStep_4 a b c x y w
  by_cases h5 : op = 5
  · subst h5; simpa [stepB] using isStep_5 a b c x y w
  by_cases h6 : op = 6
  · subst h6; simpa [stepB] using isStep_6 a b c x y w
  by_cases h7 : op = 7
  · subst h7; simpa [stepB] using isStep_7 a b c x y w
  by_cases h8 : op = 8
  · subst h8; simpa [stepB] using isStep_8 a b c x y w
  by_cases h9 : op = 9
  · subst h9; simpa [stepB] using isStep_9 a b c x y w
  by_cases h10 : op = 10
  · subst h10; simpa [stepB] using isStep_10 a b c x y w
  by_cases h11 : op = 11
  · subst h11; simpa [stepB] using isStep_11 a b c x y w
  by_cases h12 : op = 12
  · subst h12; simpa [stepB] using isStep_12 a b c x y w
  have e : stepB op a b c x y = false := by simp [stepB, *]
  rw [e]
  exact isStep_no op a b c x y w (by omega)
end Go.Proofs.Ytlbmcdoldnajoab
namespace Go.Proofs.Ytlbmcdoldnajoab
open Go.RowKit
set_option maxRecDepth 100000 in
set_option maxHeartbeats 1000000 in
/-- the program's Check of steps that lie somewhere -/
theorem check_at (b off cap : Nat) (l : List St) (w : World) (hl : l.length ≤ 32) (hb : b < w.heap.size) (hs : StepsAt w b off l) :
    Calls Try.prog 18 #[.slice (some ⟨b, off, none⟩) l.length cap] w fun e w' => e = .returned (.int .i64 (checkN l)) ∧ Below w.heap.size w w' := by
  obtain ⟨n, hn⟩ : ∃ n, n = l.length := ⟨_, rfl⟩
  have HN : Hid (n = l.length) := hn
  rw [← hn] at hl ⊢
  clear hn
  go_enter Try.func18, Try.ntmps18
  go_wp2
  go_loopw [10] (fun i wr => ∃ k : Nat, k ≤ n ∧ i = .int .i64 k ∧ (∀ j, j < k → stB (l.getD j stz) j l.length = true) ∧ Below w.heap.size w wr) (fun i _ => n - (intOf i).toNat)
  case atStart => exact ⟨0, Nat.zero_le _, rfl, fun j hj => absurd hj (Nat.not_lt_zero _), Below.refl _ _⟩
  case round =>
    obtain ⟨k, hk, rfl, hall, hbel⟩ := hrel
    by_cases hlt : k < n
    · have hlt' : k < l.length := by rw [← HN.out]; exact hlt
      obtain ⟨c0, c1, c2, c3⟩ := (hs.below hbel hb) k hlt'
      obtain ⟨s, hs'⟩ : ∃ s, s = l.getD k stz := ⟨_, rfl⟩
      rw [← hs'] at c0 c1 c2 c3
      have HS : Hid (s = l.getD k stz) := hs'
      have HA : Hid (∀ j, j < k → stB (l.getD j stz) j l.length = true) := hall
      clear hs' hall
      obtain ⟨op, a, b', c⟩ := s
      simp only at c0 c1 c2 c3
      have hstB : stB (l.getD k stz) k l.length = stepB op a b' c k ((n : Int) - 1 - k) := by rw [← HS.out, stB, ← HN.out]
      have HB : Hid (stB (l.getD k stz) k l.length = stepB op a b' c k ((n : Int) - 1 - k)) := hstB
      clear hstB
      cases hst : stepB op a b' c k ((n : Int) - 1 - k)
      · go_wp2_with (go_at_call 38; refine (isStep_any _ _ _ _ _ _ _).mono ?_; rintro e w' ⟨rfl, hb1⟩)
        go_ret
        exact ⟨ret_int (checkN_bad hlt' (HB.out.trans hst)).symm, (hbel.alloc hbel.size _).trans (hb1.mono (by simp; have := hbel.size; omega))⟩
      · go_wp2_with (go_at_call 38; refine (isStep_any _ _ _ _ _ _ _).mono ?_; rintro e w' ⟨rfl, hb1⟩)
        go_roundw
        case rel =>
          refine ⟨k + 1, by omega, by go_num, fun j hj => ?_, (hbel.alloc hbel.size _).trans (hb1.mono (by simp; have := hbel.size; omega))⟩
          by_cases hjk : j = k
          · subst hjk; exact HB.out.trans hst
          · exact HA.out j (by omega)
        case measure => simp [intOf]; omega
    · have HA : Hid (∀ j, j < k → stB (l.getD j stz) j l.length = true) := hall
      clear hall
      go_wp2
      go_ret
      exact ⟨ret_int (checkN_good (by rw [← HN.out]; exact hl) (fun j hj => HA.out j (by have := HN.out; omega))).symm, hbel⟩
set_option maxRecDepth 100000 in
set_option maxHeartbeats 400000 in
theorem check_long (ao : Option Addr) (n cap : Nat) (w : World) (hl : 32 < n) :
    Calls Try.prog 18 #[.slice ao n cap] w fun e w' => e = .returned (.int .i64 1) ∧ w' = w := by
  go_enter Try.func18, Try.ntmps18
  go_wp2
  go_ret
  exact ⟨rfl, rfl⟩
set_option maxRecDepth 100000 in
set_option maxHeartbeats 400000 in
theorem check_none (ao : Option Addr) (cap : Nat) (w : World) :
    Calls Try.prog 18 #[.slice ao 0 cap] w fun e w' => e = .returned (.int .i64 0) ∧ w' = w := by
  go_enter Try.func18, Try.ntmps18
  go_wp2
  go_loop [10] (fun i => i = .int .i64 0) (fun _ => 0)
  case atStart => rfl
  case round =>
    subst hrel
    go_wp2
    go_ret
    exact ⟨rfl, rfl⟩
theorem checkN_nil : checkN [] = 0 := by decide
theorem check_any (v : Value) (l : List St) (w : World) (h : StepsV w v l) :
    Calls Try.prog 18 #[v] w fun e w' => e = .returned (.int .i64 (checkN l)) ∧ Below w.heap.size w w' := by
  obtain ⟨ao, cap, rfl, h⟩ := h
  by_cases hl : l.length ≤ 32
  · rcases h with rfl | ⟨b, off, rfl, hb, hs⟩
    · refine (check_none ao cap w).mono fun e w' ⟨he, hw⟩ => ?_
      subst hw
      exact ⟨he.trans (ret_int checkN_nil.symm), Below.refl _ _⟩
    · exact check_at b off cap l w hl hb hs
  · refine (check_long ao _ cap w (by omega)).mono fun e w' ⟨he, hw⟩ => ?_
    subst hw
    exact ⟨he.trans (ret_int (checkN_long (by omega)).symm), Below.refl _ _⟩
end Go.Proofs.Ytlbmcdoldnajoab
namespace Go.Proofs.Ytlbmcdoldnajoab
open Go.RowKit
attribute [local go_sem ↓] Go.wp_at_zero Go.wp_at_succ
theorem runErr_job {l : List St} {ml : List (Int × Int)} {fuel : Int} (h : jobB l = false) : runErr l ml fuel = 1 := by simp [runErr, checkN, h]
theorem runErr_map {l : List St} {ml : List (Int × Int)} {fuel : Int} (h : jobB l = true) (h2 : mapB ml = false) : runErr l ml fuel = 2 := by simp [runErr, checkN, h, h2]
theorem runErr_fuel {l : List St} {ml : List (Int × Int)} {fuel : Int} (h : jobB l = true) (h2 : mapB ml = true) (h3 : fuel < 1 ∨ 200 < fuel) : runErr l ml fuel = 3 := by simp [runErr, checkN, h, h2, h3]
theorem runErr_ok {l : List St} {ml : List (Int × Int)} {fuel : Int} (h : jobB l = true) (h2 : mapB ml = true) (h3 : 1 ≤ fuel) (h4 : fuel ≤ 200) : runErr l ml fuel = 0 := by
  have : ¬ (fuel < 1 ∨ 200 < fuel) := by omega
  simp [runErr, checkN, h, h2, this]
theorem owns_form {w : World} {base : Nat} {e : TypeId} {size : Nat} {v : Value} {n : Nat} {xs : List Value} (h : w.ownsRow base e size v n xs) : ∃ ao cap, v = .slice ao n cap := by
  rcases h.2 with ⟨rfl, rfl⟩ | ⟨g, cap, cur, rfl, _⟩
  · exact ⟨none, 0, rfl⟩
  · exact ⟨_, cap, rfl⟩
theorem owns_base {w : World} {base base' : Nat} {e : TypeId} {size : Nat} {v : Value} {n : Nat} {xs : List Value} (h : w.ownsRow base e size v n xs) (hb : base' ≤ base) : w.ownsRow base' e size v n xs := by
  refine ⟨h.1, ?_⟩
  rcases h.2 with h | ⟨g, cap, cur, h1, h2, h3⟩
  · exact Or.inl h
  · exact Or.inr ⟨g, cap, cur, h1, Nat.le_trans hb h2, h3⟩
theorem owns_keep {w w' : World} {base : Nat} {e : TypeId} {size : Nat} {v : Value} {n : Nat} {xs : List Value} (h : w.ownsRow base e size v n xs) (hb : Below w.heap.size w w') : w'.ownsRow base e size v n xs :=
  owns_fr (S := fun _ => False) h (Fr.of_below hb) (fun _ _ hs => hs)
end Go.Proofs.Ytlbmcdoldnajoab
