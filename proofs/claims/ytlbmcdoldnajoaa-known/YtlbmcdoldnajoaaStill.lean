/- 'still': the caller's list, and its spare room, are as they were. -/
import Derived.Test.YtlbmcdoldnajoaaRoomy
import Derived.Deep.RegionHeld3
import Derived.Deep.DrawnRows
import Derived.Deep.QuietTactic
import Derived.BigQuiet
namespace Go.Proofs.Ytlbmcdoldnajoaa
open Go.RowKit
attribute [local go_sem ↓] Go.wp_at_zero Go.wp_at_succ

set_option maxRecDepth 100000 in
set_option maxHeartbeats 400000 in
theorem still_at (g b off cap n : Nat) (l : List St) (w : World) (hn : n = l.length) (hm : n ≤ 4398046511104) (hg : g < w.heap.size) (hb : b < w.heap.size) (ho : StepsAt w g 0 (l ++ [stw])) (hs : StepsAt w b off l) :
    Calls Try.prog 45 #[.slice (some ⟨g, 0, none⟩) n (n + 1), .slice (some ⟨b, off, none⟩) n cap] w fun e w' => e = .returned (.bool true) ∧ Below w.heap.size w w' := by
  have HN : Hid (n = l.length) := hn
  obtain ⟨c0, c1, c2, c3⟩ := ho n (by simp [hn])
  have e : (l ++ [stw]).getD n stz = stw := by rw [hn]; simp [List.getD]
  rw [e] at c0 c1 c2 c3
  simp only [show stw.op = -7 from rfl, show stw.a = -7 from rfl, show stw.b = -7 from rfl, show stw.c = -7 from rfl, Nat.zero_add] at c0 c1 c2 c3
  clear e hn
  have n1 : (0 : Int) ≤ (n : Int) := by omega
  have n2 : (n : Int) < ((n + 1 : Nat) : Int) := by omega
  have n3 : (n : Int) < (n : Int) + 1 := by omega
  have n4 : ¬ ((n : Int) + 1 ≤ (n : Int)) := by omega
  have n5 : n < n + 1 := by omega
  go_enter Try.func45, Try.ntmps45
  go_wp2
  go_region_held3 (fun w' => w'.cell? ⟨g, n * 4, none⟩ = some (.int .i64 (-7)) ∧ w'.cell? ⟨g, n * 4 + 1, none⟩ = some (.int .i64 (-7)) ∧ w'.cell? ⟨g, n * 4 + 2, none⟩ = some (.int .i64 (-7)) ∧ w'.cell? ⟨g, n * 4 + 3, none⟩ = some (.int .i64 (-7))) (go_keep)
    (first | (go_at_call 77; refine (wrong_any _).mono ?_; rintro e w' ⟨rfl, rfl⟩))
  clear c0 c1 c2 c3 n1 n2 n3 n4 n5
  go_wp2
  go_loopw [6] (fun i wr => ∃ k : Nat, k ≤ n ∧ i = .int .i64 k ∧ Below w.heap.size w wr) (fun i _ => n - (intOf i).toNat)
  case atStart => exact ⟨0, Nat.zero_le _, rfl, ((Below.refl _ _).alloc (Nat.le_refl _) _).drew⟩
  case round =>
    obtain ⟨k, hk, rfl, hbel⟩ := hrel
    by_cases hlt : k < n
    · have hlt' : k < l.length := by rw [← HN.out]; exact hlt
      obtain ⟨d0, d1, d2, d3⟩ := (hs.below hbel hb) k hlt'
      obtain ⟨o0, o1, o2, o3⟩ := (ho.below hbel hg) k (by simp; omega)
      have e : (l ++ [stw]).getD k stz = l.getD k stz := by simp [List.getD, List.getElem?_append_left hlt']
      rw [e, Nat.zero_add] at o0 o1 o2 o3
      obtain ⟨s, hs'⟩ : ∃ s, s = l.getD k stz := ⟨_, rfl⟩
      rw [← hs'] at d0 d1 d2 d3 o0 o1 o2 o3
      obtain ⟨op, a, b', c⟩ := s
      simp only at d0 d1 d2 d3 o0 o1 o2 o3
      clear hs' e
      have m1 : (0 : Int) ≤ (k : Int) := by omega
      have m2 : (k : Int) < (n : Int) := by omega
      go_wp2
      go_quiet (fail)
      go_wp2
      go_roundw
      case rel => exact ⟨k + 1, by omega, by go_num, below_drewN hbel _⟩
      case measure => simp [intOf]; omega
    · go_wp2
      go_ret
      exact ⟨rfl, hbel⟩

set_option maxRecDepth 100000 in
set_option maxHeartbeats 400000 in
theorem still_none (g cap : Nat) (ao : Option Addr) (w : World) (ho : StepsAt w g 0 [stw]) :
    Calls Try.prog 45 #[.slice (some ⟨g, 0, none⟩) 0 1, .slice ao 0 cap] w fun e w' => e = .returned (.bool true) ∧ Below w.heap.size w w' := by
  obtain ⟨c0, c1, c2, c3⟩ := ho 0 (by simp)
  have e : [stw].getD 0 stz = stw := by simp [List.getD]
  rw [e] at c0 c1 c2 c3
  simp only [show stw.op = -7 from rfl, show stw.a = -7 from rfl, show stw.b = -7 from rfl, show stw.c = -7 from rfl, Nat.zero_add, Nat.zero_mul] at c0 c1 c2 c3
  clear e
  go_enter Try.func45, Try.ntmps45
  go_wp2
  go_region_held3 (fun w' => w'.cell? ⟨g, 0, none⟩ = some (.int .i64 (-7)) ∧ w'.cell? ⟨g, 1, none⟩ = some (.int .i64 (-7)) ∧ w'.cell? ⟨g, 2, none⟩ = some (.int .i64 (-7)) ∧ w'.cell? ⟨g, 3, none⟩ = some (.int .i64 (-7))) (go_keep)
    (first | (go_at_call 77; refine (wrong_any _).mono ?_; rintro e w' ⟨rfl, rfl⟩))
  clear c0 c1 c2 c3
  go_wp2
  go_loopw [6] (fun i wr => i = .int .i64 0 ∧ Below w.heap.size w wr) (fun _ _ => 0)
  case atStart => exact ⟨rfl, ((Below.refl _ _).alloc (Nat.le_refl _) _).drew⟩
  case round =>
    obtain ⟨rfl, hbel⟩ := hrel
    go_wp2
    go_ret
    exact ⟨rfl, hbel⟩

theorem still_any (g : Nat) (v : Value) (l : List St) (w : World) (hm : l.length ≤ 4398046511104) (hg : g < w.heap.size) (ho : StepsAt w g 0 (l ++ [stw])) (h : StepsV w v l) :
    Calls Try.prog 45 #[.slice (some ⟨g, 0, none⟩) l.length (l.length + 1), v] w fun e w' => e = .returned (.bool true) ∧ Below w.heap.size w w' := by
  obtain ⟨ao, cap, rfl, h⟩ := h
  rcases h with rfl | ⟨b, off, rfl, hb, hs⟩
  · exact still_none g cap ao w ho
  · exact still_at g b off cap _ l w rfl hm hg hb ho hs

end Go.Proofs.Ytlbmcdoldnajoaa
