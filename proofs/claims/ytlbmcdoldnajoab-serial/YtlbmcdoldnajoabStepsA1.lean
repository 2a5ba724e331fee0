import Derived.Test.YtlbmcdoldnajoabFrame
import Derived.Deep.QuietTactic
import Derived.BigQuiet
import Derived.Test.YtlbmcdoldnajoabDoesLaw
import Derived.Deep.LoopGhost

namespace Go.Proofs.Ytlbmcdoldnajoab
open Go.RowKit
/-- the slice value v has the numbers l -/
def IntsV (w : World) (v : Value) (l : List Int) : Prop := ∃ ao cap, v = .slice ao l.length cap ∧ l.length ≤ 140737488351232 ∧ (l = [] ∨ ∃ b off, ao = some ⟨b, off, none⟩ ∧ b < w.heap.size ∧ ∀ i, i < l.length → w.cell? ⟨b, off + i, none⟩ = some (.int .i64 (l.getD i 0)))
theorem IntsV.below {w w' : World} {v : Value} {l : List Int} (h : IntsV w v l) (hb : Below w.heap.size w w') : IntsV w' v l := by
  obtain ⟨ao, cap, rfl, hm, h⟩ := h
  refine ⟨ao, cap, rfl, hm, ?_⟩
  rcases h with h | ⟨b, off, h1, h2, h3⟩
  · exact Or.inl h
  · exact Or.inr ⟨b, off, h1, Nat.lt_of_lt_of_le h2 hb.size, fun i hi => (hb.cell (p := ⟨b, _, none⟩) h2).trans (h3 i hi)⟩
theorem ext_getD {α : Type} {a b : List α} (d : α) (hl : a.length = b.length) (h : ∀ i, i < a.length → a.getD i d = b.getD i d) : a = b := by
  apply List.ext_getElem hl
  intro i h1 h2
  have := h i h1
  simpa [List.getD, h1, h2] using this
theorem ne_getD {α : Type} {a b : List α} (d : α) {i : Nat} (h : a.getD i d ≠ b.getD i d) : a ≠ b := fun e => h (by rw [e])
set_option maxRecDepth 100000 in
set_option maxHeartbeats 1000000 in
theorem pivotkeep_sameInts_len (ao bo : Option Addr) (n k ca cb : Nat) (w : World) (h : n ≠ k) :
    Calls Try.prog 37 #[.slice ao n ca, .slice bo k cb] w fun e w' => e = .returned (.bool false) ∧ w' = w := by
  have h1 : ((n : Int) == (k : Int)) = false := by simp; omega
  have h2 : ((n : Int) != (k : Int)) = true := by simp; omega
  go_enter Try.func37, Try.ntmps37
  go_wp2
  go_ret
  exact ⟨rfl, rfl⟩
set_option maxRecDepth 100000 in
set_option maxHeartbeats 1000000 in
theorem pivotkeep_sameInts_at (b off ca g og cb n : Nat) (x y : List Int) (w : World) (hn : n = x.length) (hy : n = y.length) (hm : n ≤ 140737488351232)
    (hx : ∀ i, i < x.length → w.cell? ⟨b, off + i, none⟩ = some (.int .i64 (x.getD i 0))) (hz : ∀ i, i < y.length → w.cell? ⟨g, og + i, none⟩ = some (.int .i64 (y.getD i 0))) :
    Calls Try.prog 37 #[.slice (some ⟨b, off, none⟩) n ca, .slice (some ⟨g, og, none⟩) n cb] w fun e w' => e = .returned (.bool (decide (x = y))) ∧ Below w.heap.size w w' := by
  have HX : Hid (n = x.length) := hn
  have HY : Hid (n = y.length) := hy
  clear hn hy
  go_enter Try.func37, Try.ntmps37
  go_wp2
  go_loopw [5] (fun i wr => ∃ j d : Nat, j ≤ n ∧ i = .int .i64 j ∧ (∀ t, t < j → x.getD t 0 = y.getD t 0) ∧ wr = w.drewN d) (fun i _ => n - (intOf i).toNat)
  case atStart => exact ⟨0, 0, Nat.zero_le _, rfl, fun t ht => absurd ht (Nat.not_lt_zero _), rfl⟩
  case round =>
    obtain ⟨j, d, hj, rfl, hall, rfl⟩ := hrel
    have HA : Hid (∀ t, t < j → x.getD t 0 = y.getD t 0) := hall
    clear hall
    by_cases hlt : j < n
    · have c0 := hx j (by rw [← HX.out]; exact hlt)
      have c1 := hz j (by rw [← HY.out]; exact hlt)
      obtain ⟨p, hp⟩ : ∃ p, p = x.getD j 0 := ⟨_, rfl⟩
      obtain ⟨q, hq⟩ : ∃ q, q = y.getD j 0 := ⟨_, rfl⟩
      rw [← hp] at c0
      rw [← hq] at c1
      have HP : Hid (p = x.getD j 0) := hp
      have HQ : Hid (q = y.getD j 0) := hq
      clear hp hq
      have m1 : (0 : Int) ≤ (j : Int) := by omega
      have m2 : (j : Int) < (n : Int) := by omega
      go_wp2
      go_quiet (fail)
      by_cases hpq : p = q
      · go_wp2
        go_roundw
        case rel =>
          refine ⟨j + 1, d + nq, by omega, by go_num, fun t ht => ?_, rfl⟩
          by_cases htj : t = j
          · subst htj; rw [← HP.out, ← HQ.out]; exact hpq
          · exact HA.out t (by omega)
        case measure => simp [intOf]; omega
      · go_wp2
        go_ret
        exact ⟨ret_bool (decide_eq_false (ne_getD 0 (by rw [← HP.out, ← HQ.out]; exact hpq))).symm, below_drewN (below_drewN (Below.refl _ _) _) _⟩
    · go_wp2
      go_ret
      exact ⟨ret_bool (decide_eq_true (ext_getD 0 (HX.out.symm.trans HY.out) (fun i hi => HA.out i (by have := HX.out; omega)))).symm, below_drewN (Below.refl _ _) _⟩
set_option maxRecDepth 100000 in
set_option maxHeartbeats 400000 in
theorem pivotkeep_sameInts_nil (ao bo : Option Addr) (ca cb : Nat) (w : World) :
    Calls Try.prog 37 #[.slice ao 0 ca, .slice bo 0 cb] w fun e w' => e = .returned (.bool true) ∧ w' = w := by
  go_enter Try.func37, Try.ntmps37
  go_wp2
  go_loop [5] (fun i => i = .int .i64 0) (fun _ => 0)
  case atStart => rfl
  case round =>
    subst hrel
    go_wp2
    go_ret
    exact ⟨rfl, rfl⟩
theorem pivotkeep_sameInts_any (a b : Value) (x y : List Int) (w : World) (ha : IntsV w a x) (hb : IntsV w b y) :
    Calls Try.prog 37 #[a, b] w fun e w' => e = .returned (.bool (decide (x = y))) ∧ Below w.heap.size w w' := by
  obtain ⟨ao, ca, rfl, hma, ha⟩ := ha
  obtain ⟨bo, cb, rfl, hmb, hb⟩ := hb
  by_cases hl : x.length = y.length
  · rcases ha with rfl | ⟨b1, o1, rfl, _, h1⟩
    · have : y = [] := List.eq_nil_of_length_eq_zero (by simpa using hl.symm)
      subst this
      exact (pivotkeep_sameInts_nil ao bo ca cb w).mono fun e w' ⟨he, hw⟩ => by subst hw; exact ⟨he, Below.refl _ _⟩
    · rcases hb with rfl | ⟨b2, o2, rfl, _, h2⟩
      · have : x = [] := List.eq_nil_of_length_eq_zero (by simpa using hl)
        subst this
        exact (pivotkeep_sameInts_nil _ bo ca cb w).mono fun e w' ⟨he, hw⟩ => by subst hw; exact ⟨he, Below.refl _ _⟩
      · rw [← hl]
        exact pivotkeep_sameInts_at b1 o1 ca b2 o2 cb _ x y w rfl hl hma h1 h2
  · exact (pivotkeep_sameInts_len ao bo _ _ ca cb w hl).mono fun e w' ⟨he, hw⟩ => by
      subst hw
      exact ⟨he.trans (ret_bool (decide_eq_false (fun e => hl (by rw [e]))).symm), Below.refl _ _⟩
set_option maxRecDepth 100000 in
set_option maxHeartbeats 1000000 in
theorem pivotkeep_samePairs_len (ao bo : Option Addr) (n k ca cb : Nat) (w : World) (h : n ≠ k) :
    Calls Try.prog 15 #[.slice ao n ca, .slice bo k cb] w fun e w' => e = .returned (.bool false) ∧ w' = w := by
  have h1 : ((n : Int) == (k : Int)) = false := by simp; omega
  have h2 : ((n : Int) != (k : Int)) = true := by simp; omega
  go_enter Try.func15, Try.ntmps15
  go_wp2
  go_ret
  exact ⟨rfl, rfl⟩
set_option maxRecDepth 100000 in
set_option maxHeartbeats 1000000 in
theorem pivotkeep_samePairs_at (b off ca g og cb n : Nat) (x y : List (Int × Int)) (w : World) (hn : n = x.length) (hy : n = y.length) (hm : n ≤ 140737488351232) (hx : PairsAt w b off x) (hz : PairsAt w g og y) :
    Calls Try.prog 15 #[.slice (some ⟨b, off, none⟩) n ca, .slice (some ⟨g, og, none⟩) n cb] w fun e w' => e = .returned (.bool (decide (x = y))) ∧ Below w.heap.size w w' := by
  have HX : Hid (n = x.length) := hn
  have HY : Hid (n = y.length) := hy
  have HPx : Hid (PairsAt w b off x) := hx
  have HPy : Hid (PairsAt w g og y) := hz
  clear hn hy hx hz
  go_enter Try.func15, Try.ntmps15
  go_wp2
  go_loopw [5] (fun i wr => ∃ j d : Nat, j ≤ n ∧ i = .int .i64 j ∧ (∀ t, t < j → x.getD t pz = y.getD t pz) ∧ wr = w.drewN d) (fun i _ => n - (intOf i).toNat)
  case atStart => exact ⟨0, 0, Nat.zero_le _, rfl, fun t ht => absurd ht (Nat.not_lt_zero _), rfl⟩
  case round =>
    obtain ⟨j, d, hj, rfl, hall, rfl⟩ := hrel
    have HA : Hid (∀ t, t < j → x.getD t pz = y.getD t pz) := hall
    clear hall
    by_cases hlt : j < n
    · obtain ⟨c0, c1⟩ := HPx.out j (by rw [← HX.out]; exact hlt)
      obtain ⟨e0, e1⟩ := HPy.out j (by rw [← HY.out]; exact hlt)
      obtain ⟨p, hp⟩ : ∃ p, p = x.getD j pz := ⟨_, rfl⟩
      obtain ⟨q, hq⟩ : ∃ q, q = y.getD j pz := ⟨_, rfl⟩
      rw [← hp] at c0 c1
      rw [← hq] at e0 e1
      have HP : Hid (p = x.getD j pz) := hp
      have HQ : Hid (q = y.getD j pz) := hq
      clear hp hq
      obtain ⟨p1, p2⟩ := p
      obtain ⟨q1, q2⟩ := q
      simp only at c0 c1 e0 e1
      have m1 : (0 : Int) ≤ (j : Int) := by omega
      have m2 : (j : Int) < (n : Int) := by omega
      have hne : Hid (¬ (p1 = q1 ∧ p2 = q2) → Ending.returned (.bool false) = .returned (.bool (decide (x = y)))) := fun hpq =>
        ret_bool (decide_eq_false (ne_getD pz (by rw [← HP.out, ← HQ.out]; intro e; injection e with e1 e2; exact hpq ⟨e1, e2⟩))).symm
      by_cases h1 : p1 = q1
      · by_cases h2 : p2 = q2
        · subst h1 h2
          go_wp2
          go_quiet (fail)
          go_wp2
          go_roundw
          case rel =>
            refine ⟨j + 1, d + nq, by omega, by go_num, fun t ht => ?_, rfl⟩
            by_cases htj : t = j
            · subst htj; rw [← HP.out, ← HQ.out]
            · exact HA.out t (by omega)
          case measure => simp [intOf]; omega
        · subst h1
          have hb2 : (p2 == q2) = false := by simpa using h2
          go_wp2
          go_quiet (fail)
          go_wp2
          go_ret
          exact ⟨hne.out (fun h => h2 h.2), below_drewN (below_drewN (Below.refl _ _) _) _⟩
      · have hb1 : (p1 == q1) = false := by simpa using h1
        go_wp2
        go_quiet (fail)
        go_wp2
        go_ret
        exact ⟨hne.out (fun h => h1 h.1), below_drewN (below_drewN (Below.refl _ _) _) _⟩
    · go_wp2
      go_ret
      exact ⟨ret_bool (decide_eq_true (ext_getD pz (HX.out.symm.trans HY.out) (fun i hi => HA.out i (by have := HX.out; omega)))).symm, below_drewN (Below.refl _ _) _⟩
set_option maxRecDepth 100000 in
set_option maxHeartbeats 400000 in
theorem pivotkeep_samePairs_nil (ao bo : Option Addr) (ca cb : Nat) (w : World) :
    Calls Try.prog 15 #[.slice ao 0 ca, .slice bo 0 cb] w fun e w' => e = .returned (.bool true) ∧ w' = w := by
  go_enter Try.func15, Try.ntmps15
  go_wp2
  go_loop [5] (fun i => i = .int .i64 0) (fun _ => 0)
  case atStart => rfl
  case round =>
    subst hrel
    go_wp2
    go_ret
    exact ⟨rfl, rfl⟩
theorem pivotkeep_samePairs_any (a b : Value) (B C : Nat) (x y : List (Int × Int)) (w : World) (ha : PairsV w B a x) (hb : PairsV w C b y) :
    Calls Try.prog 15 #[a, b] w fun e w' => e = .returned (.bool (decide (x = y))) ∧ Below w.heap.size w w' := by
  obtain ⟨ao, ca, rfl, hma, ha⟩ := ha
  obtain ⟨bo, cb, rfl, hmb, hb⟩ := hb
  by_cases hl : x.length = y.length
  · rcases ha with rfl | ⟨b1, o1, rfl, _, h1⟩
    · have : y = [] := List.eq_nil_of_length_eq_zero (by simpa using hl.symm)
      subst this
      exact (pivotkeep_samePairs_nil ao bo ca cb w).mono fun e w' ⟨he, hw⟩ => by subst hw; exact ⟨he, Below.refl _ _⟩
    · rcases hb with rfl | ⟨b2, o2, rfl, _, h2⟩
      · have : x = [] := List.eq_nil_of_length_eq_zero (by simpa using hl)
        subst this
        exact (pivotkeep_samePairs_nil _ bo ca cb w).mono fun e w' ⟨he, hw⟩ => by subst hw; exact ⟨he, Below.refl _ _⟩
      · rw [← hl]
        exact pivotkeep_samePairs_at b1 o1 ca b2 o2 cb _ x y w rfl hl hma h1 h2
  · exact (pivotkeep_samePairs_len ao bo _ _ ca cb w hl).mono fun e w' ⟨he, hw⟩ => by
      subst hw
      exact ⟨he.trans (ret_bool (decide_eq_false (fun e => hl (by rw [e]))).symm), Below.refl _ _⟩
end Go.Proofs.Ytlbmcdoldnajoab

namespace Go.Proofs.Ytlbmcdoldnajoab
open Go.RowKit
theorem play_zero (l : List St) (m : Int → Int) (x : Mo) : play l m 0 x = x := rfl
theorem play_go {l : List St} {m : Int → Int} {n : Nat} {x : Mo} (h : x.fin = 0 ∧ x.pc < l.length) : play l m (n + 1) x = play l m n (stp (l.getD x.pc stz) m x) := by rw [play, if_pos h]
theorem play_end {l : List St} {m : Int → Int} {n : Nat} {x : Mo} (h : ¬ (x.fin = 0 ∧ x.pc < l.length)) : play l m n x = x := by
  cases n with
  | zero => rfl
  | succ n => rw [play, if_neg h]
theorem jobB_at {l : List St} (h : jobB l = true) : l.length ≤ 32 ∧ ∀ i, i < l.length → stB (l.getD i stz) i l.length = true := by
  simp only [jobB, Bool.and_eq_true, decide_eq_true_eq, List.all_eq_true, List.mem_range] at h
  exact h
theorem owns_ge {w : World} {base : Nat} {e : TypeId} {size : Nat} {v : Value} {n : Nat} {xs : List Value} (h : w.ownsRow base e size v n xs) {k : Nat} (hk : v.ownBlock = some k) : base ≤ k := by
  rcases h.2 with ⟨rfl, _⟩ | ⟨g, cap, cur, rfl, hb, _⟩
  · cases hk
  · injection hk with hk
    have e : g = k := hk
    omega
end Go.Proofs.Ytlbmcdoldnajoab
namespace Go.Proofs.Ytlbmcdoldnajoab
open Go.RowKit
def accL (f : Int → Int) (j : Nat) : List (Int × Int) := (List.range j).filterMap fun k : Nat => if 0 ≤ f k then some ((k : Int), f k) else none
theorem accL_succ (f : Int → Int) (j : Nat) : accL f (j + 1) = accL f j ++ if 0 ≤ f j then [((j : Int), f j)] else [] := by
  unfold accL
  rw [List.range_succ, List.filterMap_append]
  congr 1
  by_cases h : 0 ≤ f j <;> simp [h]
theorem accL_len (f : Int → Int) (j : Nat) : (accL f j).length ≤ j := by
  have := List.length_filterMap_le (fun k : Nat => if 0 ≤ f k then some ((k : Int), f k) else none) (List.range j)
  simpa [accL] using this
theorem listOf_acc (f : Int → Int) : listOf f = accL f 16 := rfl
/-- what 'After' hands back -/
def Aftered (f : Int → Int) (w : World) (e : Ending) (w' : World) : Prop := ∃ v, e = .returned v ∧ w'.ownsRow w.heap.size 46 2 v (listOf f).length (prCells (listOf f)) ∧ Below w.heap.size w w'
/-- what is known when the inner loop of 'After' is done: the rest of the round -/
def AfterRel (f : Int → Int) (w : World) (j : Nat) (out : Value) (wr : World) : Prop := wr.ownsRow w.heap.size 46 2 out (accL f j).length (prCells (accL f j)) ∧ Below w.heap.size w wr
end Go.Proofs.Ytlbmcdoldnajoab
namespace Go.Proofs.Ytlbmcdoldnajoab
open Go.RowKit
set_option maxRecDepth 100000 in
set_option maxHeartbeats 1000000 in
theorem isStep_1 (a b c x y : Int) (w : World) :
    Calls Try.prog 38 #[.agg #[.int .i64 1, .int .i64 a, .int .i64 b, .int .i64 c], .int .i64 x, .int .i64 y] w fun e w' => e = .returned (.bool (regB a && inB b 0 999 && decide (c = 0))) ∧ Below w.heap.size w w' := by
  rcases (show (regB a = false) ∨ (regB a = true ∧ inB b 0 999 = false) ∨ (regB a = true ∧ inB b 0 999 = true ∧ ¬ c = 0) ∨ (regB a = true ∧ inB b 0 999 = true ∧ c = 0) from by cases d0 : regB a <;> cases d1 : inB b 0 999 <;> by_cases d2 : c = 0 <;> simp [*]) with k0 | ⟨k0, k1⟩ | ⟨k0, k1, k2⟩ | ⟨k0, k1, k2⟩
  all_goals
    go_enter Try.func38, Try.ntmps38
    go_wp2_with (first | (go_at_call 55; refine (isRegister_any _ _).mono ?_; rintro e w' ⟨rfl, rfl⟩) | (go_at_call 56; refine (isKey_any _ _).mono ?_; rintro e w' ⟨rfl, rfl⟩) | (go_at_call 20; refine (isWithin_any _ _ _ _).mono ?_; rintro e w' ⟨rfl, rfl⟩))
    go_ret
    refine ⟨ret_bool ?_, (Below.refl _ _).alloc (Nat.le_refl _) _⟩
    simp [*]
set_option maxRecDepth 100000 in
set_option maxHeartbeats 1000000 in
theorem isStep_2 (a b c x y : Int) (w : World) :
    Calls Try.prog 38 #[.agg #[.int .i64 2, .int .i64 a, .int .i64 b, .int .i64 c], .int .i64 x, .int .i64 y] w fun e w' => e = .returned (.bool (regB a && keyB b && decide (c = 0))) ∧ Below w.heap.size w w' := by
  rcases (show (regB a = false) ∨ (regB a = true ∧ keyB b = false) ∨ (regB a = true ∧ keyB b = true ∧ ¬ c = 0) ∨ (regB a = true ∧ keyB b = true ∧ c = 0) from by cases d0 : regB a <;> cases d1 : keyB b <;> by_cases d2 : c = 0 <;> simp [*]) with k0 | ⟨k0, k1⟩ | ⟨k0, k1, k2⟩ | ⟨k0, k1, k2⟩
  all_goals
    go_enter Try.func38, Try.ntmps38
    go_wp2_with (first | (go_at_call 55; refine (isRegister_any _ _).mono ?_; rintro e w' ⟨rfl, rfl⟩) | (go_at_call 56; refine (isKey_any _ _).mono ?_; rintro e w' ⟨rfl, rfl⟩) | (go_at_call 20; refine (isWithin_any _ _ _ _).mono ?_; rintro e w' ⟨rfl, rfl⟩))
    go_ret
    refine ⟨ret_bool ?_, (Below.refl _ _).alloc (Nat.le_refl _) _⟩
    simp [*]
set_option maxRecDepth 100000 in
set_option maxHeartbeats 1000000 in
theorem isStep_3 (a b c x y : Int) (w : World) :
    Calls Try.prog 38 #[.agg #[.int .i64 3, .int .i64 a, .int .i64 b, .int .i64 c], .int .i64 x, .int .i64 y] w fun e w' => e = .returned (.bool (keyB a && regB b && decide (c = 0))) ∧ Below w.heap.size w w' := by
  rcases (show (keyB a = false) ∨ (keyB a = true ∧ regB b = false) ∨ (keyB a = true ∧ regB b = true ∧ ¬ c = 0) ∨ (keyB a = true ∧ regB b = true ∧ c = 0) from by cases d0 : keyB a <;> cases d1 : regB b <;> by_cases d2 : c = 0 <;> simp [*]) with k0 | ⟨k0, k1⟩ | ⟨k0, k1, k2⟩ | ⟨k0, k1, k2⟩
  all_goals
    go_enter Try.func38, Try.ntmps38
    go_wp2_with (first | (go_at_call 55; refine (isRegister_any _ _).mono ?_; rintro e w' ⟨rfl, rfl⟩) | (go_at_call 56; refine (isKey_any _ _).mono ?_; rintro e w' ⟨rfl, rfl⟩) | (go_at_call 20; refine (isWithin_any _ _ _ _).mono ?_; rintro e w' ⟨rfl, rfl⟩))
    go_ret
    refine ⟨ret_bool ?_, (Below.refl _ _).alloc (Nat.le_refl _) _⟩
    simp [*]
set_option maxRecDepth 100000 in
set_option maxHeartbeats 1000000 in
theorem isStep_4 (a b c x y : Int) (w : World) :
    Calls Try.prog 38 #[.agg #[.int .i64 4, .int .i64 a, .int .i64 b, .int .i64 c], .int .i64 x, .int .i64 y] w fun e w' => e = .returned (.bool (keyB a && decide (b = 0) && decide (c = 0))) ∧ Below w.heap.size w w' := by
  rcases (show (keyB a = false) ∨ (keyB a = true ∧ ¬ b = 0) ∨ (keyB a = true ∧ b = 0 ∧ ¬ c = 0) ∨ (keyB a = true ∧ b = 0 ∧ c = 0) from by cases d0 : keyB a <;> by_cases d1 : b = 0 <;> by_cases d2 : c = 0 <;> simp [*]) with k0 | ⟨k0, k1⟩ | ⟨k0, k1, k2⟩ | ⟨k0, k1, k2⟩
  all_goals
    go_enter Try.func38, Try.ntmps38
    go_wp2_with (first | (go_at_call 55; refine (isRegister_any _ _).mono ?_; rintro e w' ⟨rfl, rfl⟩) | (go_at_call 56; refine (isKey_any _ _).mono ?_; rintro e w' ⟨rfl, rfl⟩) | (go_at_call 20; refine (isWithin_any _ _ _ _).mono ?_; rintro e w' ⟨rfl, rfl⟩))
    go_ret
    refine ⟨ret_bool ?_, (Below.refl _ _).alloc (Nat.le_refl _) _⟩
    simp [*]
set_option maxRecDepth 100000 in
set_option maxHeartbeats 1000000 in
theorem isStep_5 (a b c x y : Int) (w : World) :
    Calls Try.prog 38 #[.agg #[.int .i64 5, .int .i64 a, .int .i64 b, .int .i64 c], .int .i64 x, .int .i64 y] w fun e w' => e = .returned (.bool (regB a && keyB b && keyB c && decide (b ≤ c))) ∧ Below w.heap.size w w' := by
  rcases (show (regB a = false) ∨ (regB a = true ∧ keyB b = false) ∨ (regB a = true ∧ keyB b = true ∧ keyB c = false) ∨ (regB a = true ∧ keyB b = true ∧ keyB c = true ∧ ¬ b ≤ c) ∨ (regB a = true ∧ keyB b = true ∧ keyB c = true ∧ b ≤ c) from by cases d0 : regB a <;> cases d1 : keyB b <;> cases d2 : keyB c <;> by_cases d3 : b ≤ c <;> simp [*]) with k0 | ⟨k0, k1⟩ | ⟨k0, k1, k2⟩ | ⟨k0, k1, k2, k3⟩ | ⟨k0, k1, k2, k3⟩
  all_goals
    go_enter Try.func38, Try.ntmps38
    go_wp2_with (first | (go_at_call 55; refine (isRegister_any _ _).mono ?_; rintro e w' ⟨rfl, rfl⟩) | (go_at_call 56; refine (isKey_any _ _).mono ?_; rintro e w' ⟨rfl, rfl⟩) | (go_at_call 20; refine (isWithin_any _ _ _ _).mono ?_; rintro e w' ⟨rfl, rfl⟩))
    go_ret
    refine ⟨ret_bool ?_, (Below.refl _ _).alloc (Nat.le_refl _) _⟩
    simp [*]
set_option maxRecDepth 100000 in
set_option maxHeartbeats 1000000 in
theorem isStep_6 (a b c x y : Int) (w : World) :
    Calls Try.prog 38 #[.agg #[.int .i64 6, .int .i64 a, .int .i64 b, .int .i64 c], .int .i64 x, .int .i64 y] w fun e w' => e = .returned (.bool (regB a && keyB b && keyB c && decide (b ≤ c))) ∧ Below w.heap.size w w' := by
  rcases (show (regB a = false) ∨ (regB a = true ∧ keyB b = false) ∨ (regB a = true ∧ keyB b = true ∧ keyB c = false) ∨ (regB a = true ∧ keyB b = true ∧ keyB c = true ∧ ¬ b ≤ c) ∨ (regB a = true ∧ keyB b = true ∧ keyB c = true ∧ b ≤ c) from by cases d0 : regB a <;> cases d1 : keyB b <;> cases d2 : keyB c <;> by_cases d3 : b ≤ c <;> simp [*]) with k0 | ⟨k0, k1⟩ | ⟨k0, k1, k2⟩ | ⟨k0, k1, k2, k3⟩ | ⟨k0, k1, k2, k3⟩
  all_goals
    go_enter Try.func38, Try.ntmps38
    go_wp2_with (first | (go_at_call 55; refine (isRegister_any _ _).mono ?_; rintro e w' ⟨rfl, rfl⟩) | (go_at_call 56; refine (isKey_any _ _).mono ?_; rintro e w' ⟨rfl, rfl⟩) | (go_at_call 20; refine (isWithin_any _ _ _ _).mono ?_; rintro e w' ⟨rfl, rfl⟩))
    go_ret
    refine ⟨ret_bool ?_, (Below.refl _ _).alloc (Nat.le_refl _) _⟩
    simp [*]
end Go.Proofs.Ytlbmcdoldnajoab
