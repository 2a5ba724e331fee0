/- The document's own 'MapOK'. -/
import Derived.Test.YtlbmcdoldnajoaaMemP
import Derived.Deep.QuietTactic
import Derived.BigQuiet
namespace Go.Proofs.Ytlbmcdoldnajoaa
open Go.RowKit

def goodP (l : List (Int × Int)) (i : Nat) : Bool := keyB (l.getD i pz).1 && decide (0 ≤ (l.getD i pz).2 ∧ (l.getD i pz).2 ≤ 9999) && (decide (i = 0) || decide ((l.getD (i - 1) pz).1 < (l.getD i pz).1))

theorem mapB_eq (l : List (Int × Int)) : mapB l = (List.range l.length).all (goodP l) := rfl
theorem mapB_bad {l : List (Int × Int)} {i : Nat} (hi : i < l.length) (h : goodP l i = false) : mapB l = false := by
  rw [mapB_eq, List.all_eq_false]
  exact ⟨i, by simpa using hi, by rw [h]; simp⟩
theorem mapB_good {l : List (Int × Int)} (h : ∀ i, i < l.length → goodP l i = true) : mapB l = true := by
  rw [mapB_eq, List.all_eq_true]
  exact fun i hi => h i (by simpa using hi)

set_option maxRecDepth 100000 in
set_option maxHeartbeats 2000000 in
theorem mapOK_at (b off cap n : Nat) (l : List (Int × Int)) (w : World) (hn : n = l.length) (hm : n ≤ 140737488351232) (hs : PairsAt w b off l) :
    Calls Try.prog 80 #[.slice (some ⟨b, off, none⟩) n cap] w fun e w' => e = .returned (.bool (mapB l)) ∧ Below w.heap.size w w' := by
  have HN : Hid (n = l.length) := hn
  have HS : Hid (PairsAt w b off l) := hs
  clear hn hs
  go_enter Try.func80, Try.ntmps80
  go_wp2
  go_loopw [3] (fun i wr => ∃ j d : Nat, j ≤ n ∧ i = .int .i64 j ∧ (∀ t, t < j → goodP l t = true) ∧ wr = w.drewN d) (fun i _ => n - (intOf i).toNat)
  case atStart => exact ⟨0, 0, Nat.zero_le _, rfl, fun t ht => absurd ht (Nat.not_lt_zero _), rfl⟩
  case round =>
    obtain ⟨j, d, hj, rfl, hall, rfl⟩ := hrel
    have HA : Hid (∀ t, t < j → goodP l t = true) := hall
    clear hall
    by_cases hlt : j < n
    · have hlt' : j < l.length := by rw [← HN.out]; exact hlt
      obtain ⟨c0, c1⟩ := HS.out j hlt'
      have hgood : goodP l j = (keyB (l.getD j pz).1 && decide (0 ≤ (l.getD j pz).2 ∧ (l.getD j pz).2 ≤ 9999) && (decide (j = 0) || decide ((l.getD (j - 1) pz).1 < (l.getD j pz).1))) := rfl
      obtain ⟨p, hp⟩ : ∃ p, p = l.getD j pz := ⟨_, rfl⟩
      rw [← hp] at c0 c1 hgood
      have HP : Hid (p = l.getD j pz) := hp
      clear hp
      obtain ⟨p1, p2⟩ := p
      simp only at c0 c1 hgood
      have HG : Hid (goodP l j = (keyB p1 && decide (0 ≤ p2 ∧ p2 ≤ 9999) && (decide (j = 0) || decide ((l.getD (j - 1) pz).1 < p1)))) := hgood
      clear hgood
      have m1 : (0 : Int) ≤ (j : Int) := by omega
      have m2 : (j : Int) < (n : Int) := by omega
      have hfalse : Hid (goodP l j = false → Ending.returned (.bool false) = .returned (.bool (mapB l))) := fun h => by rw [mapB_bad hlt' h]
      have Dn : Hid (∀ k, Below w.heap.size w ((w.drewN d).drewN k)) := fun k => below_drewN (below_drewN (Below.refl _ _) _) _
      rcases (show (keyB p1 = false) ∨ (keyB p1 = true ∧ p2 < 0) ∨ (keyB p1 = true ∧ 0 ≤ p2 ∧ 9999 < p2) ∨ (keyB p1 = true ∧ 0 ≤ p2 ∧ p2 ≤ 9999) by cases keyB p1 <;> simp <;> omega) with k0 | ⟨k0, k1⟩ | ⟨k0, k1, k2⟩ | ⟨k0, k1, k2⟩
      · go_wp2_with (go_at_call 105; refine (key_any _ _).mono ?_; rintro e wv ⟨rfl, rfl⟩)
        go_quiet (fail)
        go_wp2
        go_ret
        exact ⟨hfalse.out (by rw [HG.out, k0]; rfl), Dn.out _⟩
      · have d1 : decide (p2 < 0) = true := by simpa using k1
        go_wp2_with (go_at_call 105; refine (key_any _ _).mono ?_; rintro e wv ⟨rfl, rfl⟩)
        go_quiet (fail)
        go_wp2
        go_ret
        exact ⟨hfalse.out (by rw [HG.out]; simp; omega), Dn.out _⟩
      · have d1 : decide (p2 < 0) = false := by simp; omega
        have d2 : decide (9999 < p2) = true := by simp; omega
        go_wp2_with (go_at_call 105; refine (key_any _ _).mono ?_; rintro e wv ⟨rfl, rfl⟩)
        go_quiet (fail)
        go_wp2
        go_ret
        exact ⟨hfalse.out (by rw [HG.out]; simp; omega), Dn.out _⟩
      · have d1 : decide (p2 < 0) = false := by simp; omega
        have d2 : decide (9999 < p2) = false := by simp; omega
        by_cases hz : j = 0
        · subst hz
          simp only [Nat.zero_mul, Nat.add_zero] at c0 c1
          have HG1 : Hid (goodP l 0 = true) := by show _ = _; rw [HG.out, k0]; simp; omega
          go_wp2_with (go_at_call 105; refine (key_any _ _).mono ?_; rintro e wv ⟨rfl, rfl⟩)
          go_quiet (fail)
          go_wp2
          go_roundw
          case rel =>
            exact ⟨1, d + nq, by omega, by go_num, fun t ht => (show t = 0 by omega) ▸ HG1.out, rfl⟩
          case measure => simp [intOf]; omega
        · obtain ⟨j', rfl⟩ : ∃ j', j = j' + 1 := ⟨j - 1, by omega⟩
          obtain ⟨q0, _⟩ := HS.out j' (by omega)
          simp only [Nat.add_sub_cancel] at HG
          obtain ⟨q, hq⟩ : ∃ q, q = (l.getD j' pz).1 := ⟨_, rfl⟩
          rw [← hq] at q0 HG
          have e1 : ((j' + 1 : Nat) : Int) = (j' : Int) + 1 := by omega
          have m3 : (0 : Int) < (j' : Int) + 1 := by omega
          have m4 : (j' : Int) < (n : Int) := by omega
          have m5 : (j' : Int) + 1 < (n : Int) := by omega
          have m6 : (0 : Int) ≤ (j' : Int) + 1 := by omega
          rw [e1]
          clear hq
          have d3 : decide ((0 : Int) < (j' : Int) + 1) = true := decide_eq_true (by omega)
          by_cases hk : p1 ≤ q
          · have d4 : decide (p1 ≤ q) = true := by simpa using hk
            go_wp2_with (go_at_call 105; refine (key_any _ _).mono ?_; rintro e wv ⟨rfl, rfl⟩)
            go_quiet (fail)
            go_wp2
            go_ret
            exact ⟨hfalse.out (by rw [HG.out]; simp; omega), Dn.out _⟩
          · have d4 : decide (p1 ≤ q) = false := by simpa using hk
            have HG1 : Hid (goodP l (j' + 1) = true) := by show _ = _; rw [HG.out, k0]; simp; omega
            go_wp2_with (go_at_call 105; refine (key_any _ _).mono ?_; rintro e wv ⟨rfl, rfl⟩)
            go_quiet (fail)
            go_wp2
            go_roundw
            case rel =>
              refine ⟨j' + 1 + 1, d + nq, by omega, by go_num, fun t ht => ?_, rfl⟩
              by_cases htj : t = j' + 1
              · subst htj; exact HG1.out
              · exact HA.out t (by omega)
            case measure => simp [intOf]; omega
    · go_wp2
      go_ret
      exact ⟨ret_bool (mapB_good (fun t ht => HA.out t (by have := HN.out; omega))).symm, below_drewN (Below.refl _ _) _⟩

set_option maxRecDepth 100000 in
set_option maxHeartbeats 400000 in
theorem mapOK_none (ao : Option Addr) (cap : Nat) (w : World) :
    Calls Try.prog 80 #[.slice ao 0 cap] w fun e w' => e = .returned (.bool true) ∧ w' = w := by
  go_enter Try.func80, Try.ntmps80
  go_wp2
  go_loop [3] (fun i => i = .int .i64 0) (fun _ => 0)
  case atStart => rfl
  case round =>
    subst hrel
    go_wp2
    go_ret
    exact ⟨rfl, rfl⟩

theorem mapOK_any (v : Value) (B : Nat) (l : List (Int × Int)) (w : World) (h : PairsV w B v l) :
    Calls Try.prog 80 #[v] w fun e w' => e = .returned (.bool (mapB l)) ∧ Below w.heap.size w w' := by
  obtain ⟨ao, cap, rfl, hm, h⟩ := h
  rcases h with rfl | ⟨b, off, rfl, hb, hs⟩
  · exact (mapOK_none ao cap w).mono fun e w' ⟨he, hw⟩ => by subst hw; exact ⟨he, Below.refl _ _⟩
  · exact mapOK_at b off cap _ l w rfl hm hs

end Go.Proofs.Ytlbmcdoldnajoaa
