/- The walks of the document's own Check. -/
import Derived.Test.YtlbmcdoldnajoaaStepsAB
import Derived.Test.YtlbmcdoldnajoaaMem
import Derived.Test.YtlbmcdoldnajoaaCheckW
namespace Go.Proofs.Ytlbmcdoldnajoaa
open Go.RowKit

set_option maxRecDepth 100000 in
set_option maxHeartbeats 1000000 in
/-- the document's Check of steps that lie somewhere -/
theorem refCheck_at (b off cap : Nat) (l : List St) (w : World) (hl : l.length ≤ 32) (hb : b < w.heap.size) (hs : StepsAt w b off l) :
    Calls Try.prog 44 #[.slice (some ⟨b, off, none⟩) l.length cap] w fun e w' => e = .returned (.int .i64 (checkN l)) ∧ Below w.heap.size w w' := by
  obtain ⟨n, hn⟩ : ∃ n, n = l.length := ⟨_, rfl⟩
  have HN : Hid (n = l.length) := hn
  rw [← hn] at hl ⊢
  clear hn
  go_enter Try.func44, Try.ntmps44
  go_wp2
  go_loopw [3] (fun i wr => ∃ k : Nat, k ≤ n ∧ i = .int .i64 k ∧ (∀ j, j < k → stB (l.getD j stz) j l.length = true) ∧ Below w.heap.size w wr) (fun i _ => n - (intOf i).toNat)
  case atStart => exact ⟨0, Nat.zero_le _, rfl, fun j hj => absurd hj (Nat.not_lt_zero _), Below.refl _ _⟩
  case round =>
    obtain ⟨k, hk, rfl, hall, hbel⟩ := hrel
    by_cases hlt : k < n
    · have hlt' : k < l.length := by rw [← HN.out]; exact hlt
      obtain ⟨c0, c1, c2, c3⟩ := (hs.below hbel hb) k hlt'
      obtain ⟨s, hs'⟩ : ∃ s, s = l.getD k stz := ⟨_, rfl⟩
      rw [← hs'] at c0 c1 c2 c3
      have HS : Hid (s = l.getD k stz) := hs'
      have HA : Hid (∀ j, j < k → stB (l.getD j stz) j l.length = true) := hall
      clear hs' hall
      obtain ⟨op, a, b', c⟩ := s
      simp only at c0 c1 c2 c3
      have hstB : stB (l.getD k stz) k l.length = stepB op a b' c k ((n : Int) - 1 - k) := by rw [← HS.out, stB, ← HN.out]
      have HB : Hid (stB (l.getD k stz) k l.length = stepB op a b' c k ((n : Int) - 1 - k)) := hstB
      clear hstB
      cases hst : stepB op a b' c k ((n : Int) - 1 - k)
      · go_wp2_with (go_at_call 79; refine (operands_any _ _ _ _ _ _ _ (by omega) (by omega) (by omega) (by omega)).mono ?_; rintro e w' ⟨rfl, hb1⟩)
        go_ret
        exact ⟨ret_int (checkN_bad hlt' (HB.out.trans hst)).symm, hbel.trans (hb1.mono hbel.size)⟩
      · go_wp2_with (go_at_call 79; refine (operands_any _ _ _ _ _ _ _ (by omega) (by omega) (by omega) (by omega)).mono ?_; rintro e w' ⟨rfl, hb1⟩)
        go_roundw
        case rel =>
          refine ⟨k + 1, by omega, by go_num, fun j hj => ?_, hbel.trans (hb1.mono hbel.size)⟩
          by_cases hjk : j = k
          · subst hjk; exact HB.out.trans hst
          · exact HA.out j (by omega)
        case measure => simp [intOf]; omega
    · have HA : Hid (∀ j, j < k → stB (l.getD j stz) j l.length = true) := hall
      clear hall
      go_wp2
      go_ret
      exact ⟨ret_int (checkN_good (by rw [← HN.out]; exact hl) (fun j hj => HA.out j (by have := HN.out; omega))).symm, hbel⟩

set_option maxRecDepth 100000 in
set_option maxHeartbeats 400000 in
theorem refCheck_long (ao : Option Addr) (n cap : Nat) (w : World) (hl : 32 < n) :
    Calls Try.prog 44 #[.slice ao n cap] w fun e w' => e = .returned (.int .i64 1) ∧ w' = w := by
  go_enter Try.func44, Try.ntmps44
  go_wp2
  go_ret
  exact ⟨rfl, rfl⟩

set_option maxRecDepth 100000 in
set_option maxHeartbeats 400000 in
theorem refCheck_none (ao : Option Addr) (cap : Nat) (w : World) :
    Calls Try.prog 44 #[.slice ao 0 cap] w fun e w' => e = .returned (.int .i64 0) ∧ w' = w := by
  go_enter Try.func44, Try.ntmps44
  go_wp2
  go_loop [3] (fun i => i = .int .i64 0) (fun _ => 0)
  case atStart => rfl
  case round =>
    subst hrel
    go_wp2
    go_ret
    exact ⟨rfl, rfl⟩

theorem refCheck_any (v : Value) (l : List St) (w : World) (h : StepsV w v l) :
    Calls Try.prog 44 #[v] w fun e w' => e = .returned (.int .i64 (checkN l)) ∧ Below w.heap.size w w' := by
  obtain ⟨ao, cap, rfl, h⟩ := h
  by_cases hl : l.length ≤ 32
  · rcases h with rfl | ⟨b, off, rfl, hb, hs⟩
    · refine (refCheck_none ao cap w).mono fun e w' ⟨he, hw⟩ => ?_
      subst hw
      exact ⟨he.trans (ret_int checkN_nil.symm), Below.refl _ _⟩
    · exact refCheck_at b off cap l w hl hb hs
  · refine (refCheck_long ao _ cap w (by omega)).mono fun e w' ⟨he, hw⟩ => ?_
    subst hw
    exact ⟨he.trans (ret_int (checkN_long (by omega)).symm), Below.refl _ _⟩

end Go.Proofs.Ytlbmcdoldnajoaa
