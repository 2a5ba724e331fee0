import Derived.Test.YtlbmcdoldnajoaaFrame
import Derived.Deep.QuietTactic
import Derived.BigQuiet

namespace Go.Proofs.Ytlbmcdoldnajoaa
open Go.RowKit
/-- the slice value v has the numbers l -/
def IntsV (w : World) (v : Value) (l : List Int) : Prop := ∃ ao cap, v = .slice ao l.length cap ∧ l.length ≤ 140737488351232 ∧ (l = [] ∨ ∃ b off, ao = some ⟨b, off, none⟩ ∧ b < w.heap.size ∧ ∀ i, i < l.length → w.cell? ⟨b, off + i, none⟩ = some (.int .i64 (l.getD i 0)))
theorem IntsV.below {w w' : World} {v : Value} {l : List Int} (h : IntsV w v l) (hb : Below w.heap.size w w') : IntsV w' v l := by
  obtain ⟨ao, cap, rfl, hm, h⟩ := h
  refine ⟨ao, cap, rfl, hm, ?_⟩
  rcases h with h | ⟨b, off, h1, h2, h3⟩
  · exact Or.inl h
  · exact Or.inr ⟨b, off, h1, Nat.lt_of_lt_of_le h2 hb.size, fun i hi => (hb.cell (p := ⟨b, _, none⟩) h2).trans (h3 i hi)⟩
theorem ext_getD {α : Type} {a b : List α} (d : α) (hl : a.length = b.length) (h : ∀ i, i < a.length → a.getD i d = b.getD i d) : a = b := by
  apply List.ext_getElem hl
  intro i h1 h2
  have := h i h1
  simpa [List.getD, h1, h2] using this
theorem ne_getD {α : Type} {a b : List α} (d : α) {i : Nat} (h : a.getD i d ≠ b.getD i d) : a ≠ b := fun e => h (by rw [e])
set_option maxRecDepth 100000 in
set_option maxHeartbeats 1000000 in
theorem pivotlaw_sameInts_len (ao bo : Option Addr) (n k ca cb : Nat) (w : World) (h : n ≠ k) :
    Calls Try.prog 83 #[.slice ao n ca, .slice bo k cb] w fun e w' => e = .returned (.bool false) ∧ w' = w := by
  have h1 : ((n : Int) == (k : Int)) = false := by simp; omega
  have h2 : ((n : Int) != (k : Int)) = true := by simp; omega
  go_enter Try.func83, Try.ntmps83
  go_wp2
  go_ret
  exact ⟨rfl, rfl⟩
set_option maxRecDepth 100000 in
set_option maxHeartbeats 1000000 in
theorem pivotlaw_sameInts_at (b off ca g og cb n : Nat) (x y : List Int) (w : World) (hn : n = x.length) (hy : n = y.length) (hm : n ≤ 140737488351232)
    (hx : ∀ i, i < x.length → w.cell? ⟨b, off + i, none⟩ = some (.int .i64 (x.getD i 0))) (hz : ∀ i, i < y.length → w.cell? ⟨g, og + i, none⟩ = some (.int .i64 (y.getD i 0))) :
    Calls Try.prog 83 #[.slice (some ⟨b, off, none⟩) n ca, .slice (some ⟨g, og, none⟩) n cb] w fun e w' => e = .returned (.bool (decide (x = y))) ∧ Below w.heap.size w w' := by
  have HX : Hid (n = x.length) := hn
  have HY : Hid (n = y.length) := hy
  clear hn hy
  go_enter Try.func83, Try.ntmps83
  go_wp2
  go_loopw [5] (fun i wr => ∃ j d : Nat, j ≤ n ∧ i = .int .i64 j ∧ (∀ t, t < j → x.getD t 0 = y.getD t 0) ∧ wr = w.drewN d) (fun i _ => n - (intOf i).toNat)
  case atStart => exact ⟨0, 0, Nat.zero_le _, rfl, fun t ht => absurd ht (Nat.not_lt_zero _), rfl⟩
  case round =>
    obtain ⟨j, d, hj, rfl, hall, rfl⟩ := hrel
    have HA : Hid (∀ t, t < j → x.getD t 0 = y.getD t 0) := hall
    clear hall
    by_cases hlt : j < n
    · have c0 := hx j (by rw [← HX.out]; exact hlt)
      have c1 := hz j (by rw [← HY.out]; exact hlt)
      obtain ⟨p, hp⟩ : ∃ p, p = x.getD j 0 := ⟨_, rfl⟩
      obtain ⟨q, hq⟩ : ∃ q, q = y.getD j 0 := ⟨_, rfl⟩
      rw [← hp] at c0
      rw [← hq] at c1
      have HP : Hid (p = x.getD j 0) := hp
      have HQ : Hid (q = y.getD j 0) := hq
      clear hp hq
      have m1 : (0 : Int) ≤ (j : Int) := by omega
      have m2 : (j : Int) < (n : Int) := by omega
      go_wp2
      go_quiet (fail)
      by_cases hpq : p = q
      · go_wp2
        go_roundw
        case rel =>
          refine ⟨j + 1, d + nq, by omega, by go_num, fun t ht => ?_, rfl⟩
          by_cases htj : t = j
          · subst htj; rw [← HP.out, ← HQ.out]; exact hpq
          · exact HA.out t (by omega)
        case measure => simp [intOf]; omega
      · go_wp2
        go_ret
        exact ⟨ret_bool (decide_eq_false (ne_getD 0 (by rw [← HP.out, ← HQ.out]; exact hpq))).symm, below_drewN (below_drewN (Below.refl _ _) _) _⟩
    · go_wp2
      go_ret
      exact ⟨ret_bool (decide_eq_true (ext_getD 0 (HX.out.symm.trans HY.out) (fun i hi => HA.out i (by have := HX.out; omega)))).symm, below_drewN (Below.refl _ _) _⟩
set_option maxRecDepth 100000 in
set_option maxHeartbeats 400000 in
theorem pivotlaw_sameInts_nil (ao bo : Option Addr) (ca cb : Nat) (w : World) :
    Calls Try.prog 83 #[.slice ao 0 ca, .slice bo 0 cb] w fun e w' => e = .returned (.bool true) ∧ w' = w := by
  go_enter Try.func83, Try.ntmps83
  go_wp2
  go_loop [5] (fun i => i = .int .i64 0) (fun _ => 0)
  case atStart => rfl
  case round =>
    subst hrel
    go_wp2
    go_ret
    exact ⟨rfl, rfl⟩
theorem pivotlaw_sameInts_any (a b : Value) (x y : List Int) (w : World) (ha : IntsV w a x) (hb : IntsV w b y) :
    Calls Try.prog 83 #[a, b] w fun e w' => e = .returned (.bool (decide (x = y))) ∧ Below w.heap.size w w' := by
  obtain ⟨ao, ca, rfl, hma, ha⟩ := ha
  obtain ⟨bo, cb, rfl, hmb, hb⟩ := hb
  by_cases hl : x.length = y.length
  · rcases ha with rfl | ⟨b1, o1, rfl, _, h1⟩
    · have : y = [] := List.eq_nil_of_length_eq_zero (by simpa using hl.symm)
      subst this
      exact (pivotlaw_sameInts_nil ao bo ca cb w).mono fun e w' ⟨he, hw⟩ => by subst hw; exact ⟨he, Below.refl _ _⟩
    · rcases hb with rfl | ⟨b2, o2, rfl, _, h2⟩
      · have : x = [] := List.eq_nil_of_length_eq_zero (by simpa using hl)
        subst this
        exact (pivotlaw_sameInts_nil _ bo ca cb w).mono fun e w' ⟨he, hw⟩ => by subst hw; exact ⟨he, Below.refl _ _⟩
      · rw [← hl]
        exact pivotlaw_sameInts_at b1 o1 ca b2 o2 cb _ x y w rfl hl hma h1 h2
  · exact (pivotlaw_sameInts_len ao bo _ _ ca cb w hl).mono fun e w' ⟨he, hw⟩ => by
      subst hw
      exact ⟨he.trans (ret_bool (decide_eq_false (fun e => hl (by rw [e]))).symm), Below.refl _ _⟩
set_option maxRecDepth 100000 in
set_option maxHeartbeats 1000000 in
theorem pivotkeep_sameInts_len (ao bo : Option Addr) (n k ca cb : Nat) (w : World) (h : n ≠ k) :
    Calls Try.prog 21 #[.slice ao n ca, .slice bo k cb] w fun e w' => e = .returned (.bool false) ∧ w' = w := by
  have h1 : ((n : Int) == (k : Int)) = false := by simp; omega
  have h2 : ((n : Int) != (k : Int)) = true := by simp; omega
  go_enter Try.func21, Try.ntmps21
  go_wp2
  go_ret
  exact ⟨rfl, rfl⟩
set_option maxRecDepth 100000 in
set_option maxHeartbeats 1000000 in
theorem pivotkeep_sameInts_at (b off ca g og cb n : Nat) (x y : List Int) (w : World) (hn : n = x.length) (hy : n = y.length) (hm : n ≤ 140737488351232)
    (hx : ∀ i, i < x.length → w.cell? ⟨b, off + i, none⟩ = some (.int .i64 (x.getD i 0))) (hz : ∀ i, i < y.length → w.cell? ⟨g, og + i, none⟩ = some (.int .i64 (y.getD i 0))) :
    Calls Try.prog 21 #[.slice (some ⟨b, off, none⟩) n ca, .slice (some ⟨g, og, none⟩) n cb] w fun e w' => e = .returned (.bool (decide (x = y))) ∧ Below w.heap.size w w' := by
  have HX : Hid (n = x.length) := hn
  have HY : Hid (n = y.length) := hy
  clear hn hy
  go_enter Try.func21, Try.ntmps21
  go_wp2
  go_loopw [5] (fun i wr => ∃ j d : Nat, j ≤ n ∧ i = .int .i64 j ∧ (∀ t, t < j → x.getD t 0 = y.getD t 0) ∧ wr = w.drewN d) (fun i _ => n - (intOf i).toNat)
  case atStart => exact ⟨0, 0, Nat.zero_le _, rfl, fun t ht => absurd ht (Nat.not_lt_zero _), rfl⟩
  case round =>
    obtain ⟨j, d, hj, rfl, hall, rfl⟩ := hrel
    have HA : Hid (∀ t, t < j → x.getD t 0 = y.getD t 0) := hall
    clear hall
    by_cases hlt : j < n
    · have c0 := hx j (by rw [← HX.out]; exact hlt)
      have c1 := hz j (by rw [← HY.out]; exact hlt)
      obtain ⟨p, hp⟩ : ∃ p, p = x.getD j 0 := ⟨_, rfl⟩
      obtain ⟨q, hq⟩ : ∃ q, q = y.getD j 0 := ⟨_, rfl⟩
      rw [← hp] at c0
      rw [← hq] at c1
      have HP : Hid (p = x.getD j 0) := hp
      have HQ : Hid (q = y.getD j 0) := hq
      clear hp hq
      have m1 : (0 : Int) ≤ (j : Int) := by omega
      have m2 : (j : Int) < (n : Int) := by omega
      go_wp2
      go_quiet (fail)
      by_cases hpq : p = q
      · go_wp2
        go_roundw
        case rel =>
          refine ⟨j + 1, d + nq, by omega, by go_num, fun t ht => ?_, rfl⟩
          by_cases htj : t = j
          · subst htj; rw [← HP.out, ← HQ.out]; exact hpq
          · exact HA.out t (by omega)
        case measure => simp [intOf]; omega
      · go_wp2
        go_ret
        exact ⟨ret_bool (decide_eq_false (ne_getD 0 (by rw [← HP.out, ← HQ.out]; exact hpq))).symm, below_drewN (below_drewN (Below.refl _ _) _) _⟩
    · go_wp2
      go_ret
      exact ⟨ret_bool (decide_eq_true (ext_getD 0 (HX.out.symm.trans HY.out) (fun i hi => HA.out i (by have := HX.out; omega)))).symm, below_drewN (Below.refl _ _) _⟩
set_option maxRecDepth 100000 in
set_option maxHeartbeats 400000 in
theorem pivotkeep_sameInts_nil (ao bo : Option Addr) (ca cb : Nat) (w : World) :
    Calls Try.prog 21 #[.slice ao 0 ca, .slice bo 0 cb] w fun e w' => e = .returned (.bool true) ∧ w' = w := by
  go_enter Try.func21, Try.ntmps21
  go_wp2
  go_loop [5] (fun i => i = .int .i64 0) (fun _ => 0)
  case atStart => rfl
  case round =>
    subst hrel
    go_wp2
    go_ret
    exact ⟨rfl, rfl⟩
theorem pivotkeep_sameInts_any (a b : Value) (x y : List Int) (w : World) (ha : IntsV w a x) (hb : IntsV w b y) :
    Calls Try.prog 21 #[a, b] w fun e w' => e = .returned (.bool (decide (x = y))) ∧ Below w.heap.size w w' := by
  obtain ⟨ao, ca, rfl, hma, ha⟩ := ha
  obtain ⟨bo, cb, rfl, hmb, hb⟩ := hb
  by_cases hl : x.length = y.length
  · rcases ha with rfl | ⟨b1, o1, rfl, _, h1⟩
    · have : y = [] := List.eq_nil_of_length_eq_zero (by simpa using hl.symm)
      subst this
      exact (pivotkeep_sameInts_nil ao bo ca cb w).mono fun e w' ⟨he, hw⟩ => by subst hw; exact ⟨he, Below.refl _ _⟩
    · rcases hb with rfl | ⟨b2, o2, rfl, _, h2⟩
      · have : x = [] := List.eq_nil_of_length_eq_zero (by simpa using hl)
        subst this
        exact (pivotkeep_sameInts_nil _ bo ca cb w).mono fun e w' ⟨he, hw⟩ => by subst hw; exact ⟨he, Below.refl _ _⟩
      · rw [← hl]
        exact pivotkeep_sameInts_at b1 o1 ca b2 o2 cb _ x y w rfl hl hma h1 h2
  · exact (pivotkeep_sameInts_len ao bo _ _ ca cb w hl).mono fun e w' ⟨he, hw⟩ => by
      subst hw
      exact ⟨he.trans (ret_bool (decide_eq_false (fun e => hl (by rw [e]))).symm), Below.refl _ _⟩
set_option maxRecDepth 100000 in
set_option maxHeartbeats 1000000 in
theorem pivotlaw_samePairs_at (b off ca g og cb n : Nat) (x y : List (Int × Int)) (w : World) (hn : n = x.length) (hy : n = y.length) (hm : n ≤ 140737488351232) (hx : PairsAt w b off x) (hz : PairsAt w g og y) :
    Calls Try.prog 49 #[.slice (some ⟨b, off, none⟩) n ca, .slice (some ⟨g, og, none⟩) n cb] w fun e w' => e = .returned (.bool (decide (x = y))) ∧ Below w.heap.size w w' := by
  have HX : Hid (n = x.length) := hn
  have HY : Hid (n = y.length) := hy
  have HPx : Hid (PairsAt w b off x) := hx
  have HPy : Hid (PairsAt w g og y) := hz
  clear hn hy hx hz
  go_enter Try.func49, Try.ntmps49
  go_wp2
  go_loopw [5] (fun i wr => ∃ j d : Nat, j ≤ n ∧ i = .int .i64 j ∧ (∀ t, t < j → x.getD t pz = y.getD t pz) ∧ wr = w.drewN d) (fun i _ => n - (intOf i).toNat)
  case atStart => exact ⟨0, 0, Nat.zero_le _, rfl, fun t ht => absurd ht (Nat.not_lt_zero _), rfl⟩
  case round =>
    obtain ⟨j, d, hj, rfl, hall, rfl⟩ := hrel
    have HA : Hid (∀ t, t < j → x.getD t pz = y.getD t pz) := hall
    clear hall
    by_cases hlt : j < n
    · obtain ⟨c0, c1⟩ := HPx.out j (by rw [← HX.out]; exact hlt)
      obtain ⟨e0, e1⟩ := HPy.out j (by rw [← HY.out]; exact hlt)
      obtain ⟨p, hp⟩ : ∃ p, p = x.getD j pz := ⟨_, rfl⟩
      obtain ⟨q, hq⟩ : ∃ q, q = y.getD j pz := ⟨_, rfl⟩
      rw [← hp] at c0 c1
      rw [← hq] at e0 e1
      have HP : Hid (p = x.getD j pz) := hp
      have HQ : Hid (q = y.getD j pz) := hq
      clear hp hq
      obtain ⟨p1, p2⟩ := p
      obtain ⟨q1, q2⟩ := q
      simp only at c0 c1 e0 e1
      have m1 : (0 : Int) ≤ (j : Int) := by omega
      have m2 : (j : Int) < (n : Int) := by omega
      have hne : Hid (¬ (p1 = q1 ∧ p2 = q2) → Ending.returned (.bool false) = .returned (.bool (decide (x = y)))) := fun hpq =>
        ret_bool (decide_eq_false (ne_getD pz (by rw [← HP.out, ← HQ.out]; intro e; injection e with e1 e2; exact hpq ⟨e1, e2⟩))).symm
      by_cases h1 : p1 = q1
      · by_cases h2 : p2 = q2
        · subst h1 h2
          go_wp2
          go_quiet (fail)
          go_wp2
          go_roundw
          case rel =>
            refine ⟨j + 1, d + nq, by omega, by go_num, fun t ht => ?_, rfl⟩
            by_cases htj : t = j
            · subst htj; rw [← HP.out, ← HQ.out]
            · exact HA.out t (by omega)
          case measure => simp [intOf]; omega
        · subst h1
          have hb2 : (p2 == q2) = false := by simpa using h2
          go_wp2
          go_quiet (fail)
          go_wp2
          go_ret
          exact ⟨hne.out (fun h => h2 h.2), below_drewN (below_drewN (Below.refl _ _) _) _⟩
      · have hb1 : (p1 == q1) = false := by simpa using h1
        go_wp2
        go_quiet (fail)
        go_wp2
        go_ret
        exact ⟨hne.out (fun h => h1 h.1), below_drewN (below_drewN (Below.refl _ _) _) _⟩
    · go_wp2
      go_ret
      exact ⟨ret_bool (decide_eq_true (ext_getD pz (HX.out.symm.trans HY.out) (fun i hi => HA.out i (by have := HX.out; omega)))).symm, below_drewN (Below.refl _ _) _⟩
set_option maxRecDepth 100000 in
set_option maxHeartbeats 1000000 in
theorem pivotkeep_samePairs_len (ao bo : Option Addr) (n k ca cb : Nat) (w : World) (h : n ≠ k) :
    Calls Try.prog 22 #[.slice ao n ca, .slice bo k cb] w fun e w' => e = .returned (.bool false) ∧ w' = w := by
  have h1 : ((n : Int) == (k : Int)) = false := by simp; omega
  have h2 : ((n : Int) != (k : Int)) = true := by simp; omega
  go_enter Try.func22, Try.ntmps22
  go_wp2
  go_ret
  exact ⟨rfl, rfl⟩
set_option maxRecDepth 100000 in
set_option maxHeartbeats 1000000 in
theorem pivotkeep_samePairs_at (b off ca g og cb n : Nat) (x y : List (Int × Int)) (w : World) (hn : n = x.length) (hy : n = y.length) (hm : n ≤ 140737488351232) (hx : PairsAt w b off x) (hz : PairsAt w g og y) :
    Calls Try.prog 22 #[.slice (some ⟨b, off, none⟩) n ca, .slice (some ⟨g, og, none⟩) n cb] w fun e w' => e = .returned (.bool (decide (x = y))) ∧ Below w.heap.size w w' := by
  have HX : Hid (n = x.length) := hn
  have HY : Hid (n = y.length) := hy
  have HPx : Hid (PairsAt w b off x) := hx
  have HPy : Hid (PairsAt w g og y) := hz
  clear hn hy hx hz
  go_enter Try.func22, Try.ntmps22
  go_wp2
  go_loopw [5] (fun i wr => ∃ j d : Nat, j ≤ n ∧ i = .int .i64 j ∧ (∀ t, t < j → x.getD t pz = y.getD t pz) ∧ wr = w.drewN d) (fun i _ => n - (intOf i).toNat)
  case atStart => exact ⟨0, 0, Nat.zero_le _, rfl, fun t ht => absurd ht (Nat.not_lt_zero _), rfl⟩
  case round =>
    obtain ⟨j, d, hj, rfl, hall, rfl⟩ := hrel
    have HA : Hid (∀ t, t < j → x.getD t pz = y.getD t pz) := hall
    clear hall
    by_cases hlt : j < n
    · obtain ⟨c0, c1⟩ := HPx.out j (by rw [← HX.out]; exact hlt)
      obtain ⟨e0, e1⟩ := HPy.out j (by rw [← HY.out]; exact hlt)
      obtain ⟨p, hp⟩ : ∃ p, p = x.getD j pz := ⟨_, rfl⟩
      obtain ⟨q, hq⟩ : ∃ q, q = y.getD j pz := ⟨_, rfl⟩
      rw [← hp] at c0 c1
      rw [← hq] at e0 e1
      have HP : Hid (p = x.getD j pz) := hp
      have HQ : Hid (q = y.getD j pz) := hq
      clear hp hq
      obtain ⟨p1, p2⟩ := p
      obtain ⟨q1, q2⟩ := q
      simp only at c0 c1 e0 e1
      have m1 : (0 : Int) ≤ (j : Int) := by omega
      have m2 : (j : Int) < (n : Int) := by omega
      have hne : Hid (¬ (p1 = q1 ∧ p2 = q2) → Ending.returned (.bool false) = .returned (.bool (decide (x = y)))) := fun hpq =>
        ret_bool (decide_eq_false (ne_getD pz (by rw [← HP.out, ← HQ.out]; intro e; injection e with e1 e2; exact hpq ⟨e1, e2⟩))).symm
      by_cases h1 : p1 = q1
      · by_cases h2 : p2 = q2
        · subst h1 h2
          go_wp2
          go_quiet (fail)
          go_wp2
          go_roundw
          case rel =>
            refine ⟨j + 1, d + nq, by omega, by go_num, fun t ht => ?_, rfl⟩
            by_cases htj : t = j
            · subst htj; rw [← HP.out, ← HQ.out]
            · exact HA.out t (by omega)
          case measure => simp [intOf]; omega
        · subst h1
          have hb2 : (p2 == q2) = false := by simpa using h2
          go_wp2
          go_quiet (fail)
          go_wp2
          go_ret
          exact ⟨hne.out (fun h => h2 h.2), below_drewN (below_drewN (Below.refl _ _) _) _⟩
      · have hb1 : (p1 == q1) = false := by simpa using h1
        go_wp2
        go_quiet (fail)
        go_wp2
        go_ret
        exact ⟨hne.out (fun h => h1 h.1), below_drewN (below_drewN (Below.refl _ _) _) _⟩
    · go_wp2
      go_ret
      exact ⟨ret_bool (decide_eq_true (ext_getD pz (HX.out.symm.trans HY.out) (fun i hi => HA.out i (by have := HX.out; omega)))).symm, below_drewN (Below.refl _ _) _⟩
set_option maxRecDepth 100000 in
set_option maxHeartbeats 400000 in
theorem pivotkeep_samePairs_nil (ao bo : Option Addr) (ca cb : Nat) (w : World) :
    Calls Try.prog 22 #[.slice ao 0 ca, .slice bo 0 cb] w fun e w' => e = .returned (.bool true) ∧ w' = w := by
  go_enter Try.func22, Try.ntmps22
  go_wp2
  go_loop [5] (fun i => i = .int .i64 0) (fun _ => 0)
  case atStart => rfl
  case round =>
    subst hrel
    go_wp2
    go_ret
    exact ⟨rfl, rfl⟩
theorem pivotkeep_samePairs_any (a b : Value) (B C : Nat) (x y : List (Int × Int)) (w : World) (ha : PairsV w B a x) (hb : PairsV w C b y) :
    Calls Try.prog 22 #[a, b] w fun e w' => e = .returned (.bool (decide (x = y))) ∧ Below w.heap.size w w' := by
  obtain ⟨ao, ca, rfl, hma, ha⟩ := ha
  obtain ⟨bo, cb, rfl, hmb, hb⟩ := hb
  by_cases hl : x.length = y.length
  · rcases ha with rfl | ⟨b1, o1, rfl, _, h1⟩
    · have : y = [] := List.eq_nil_of_length_eq_zero (by simpa using hl.symm)
      subst this
      exact (pivotkeep_samePairs_nil ao bo ca cb w).mono fun e w' ⟨he, hw⟩ => by subst hw; exact ⟨he, Below.refl _ _⟩
    · rcases hb with rfl | ⟨b2, o2, rfl, _, h2⟩
      · have : x = [] := List.eq_nil_of_length_eq_zero (by simpa using hl)
        subst this
        exact (pivotkeep_samePairs_nil _ bo ca cb w).mono fun e w' ⟨he, hw⟩ => by subst hw; exact ⟨he, Below.refl _ _⟩
      · rw [← hl]
        exact pivotkeep_samePairs_at b1 o1 ca b2 o2 cb _ x y w rfl hl hma h1 h2
  · exact (pivotkeep_samePairs_len ao bo _ _ ca cb w hl).mono fun e w' ⟨he, hw⟩ => by
      subst hw
      exact ⟨he.trans (ret_bool (decide_eq_false (fun e => hl (by rw [e]))).symm), Below.refl _ _⟩
end Go.Proofs.Ytlbmcdoldnajoaa
