import Derived.Test.YtlbmcdoldnajoaaGreatPlay
import Derived.Test.YtlbmcdoldnajoaaGreatFrame
set_option maxRecDepth 100000
set_option maxHeartbeats 2000000
namespace Go.Proofs.YtlbmcdoldnajoaaGreat
open Go.RowKit
def accL (f : Int → Int) (j : Nat) : List (Int × Int) := (List.range j).filterMap fun k : Nat => if 0 ≤ f k then some ((k : Int), f k) else none
theorem accL_succ (f : Int → Int) (j : Nat) : accL f (j + 1) = accL f j ++ if 0 ≤ f j then [((j : Int), f j)] else [] := by
  unfold accL
  rw [List.range_succ, List.filterMap_append]
  congr 1
  by_cases h : 0 ≤ f j <;> simp [h]
theorem accL_len (f : Int → Int) (j : Nat) : (accL f j).length ≤ j := by
  have := List.length_filterMap_le (fun k : Nat => if 0 ≤ f k then some ((k : Int), f k) else none) (List.range j)
  simpa [accL] using this
theorem listOf_acc (f : Int → Int) : listOf f = accL f 16 := rfl
def lookT (ml pl : List (Int × Int)) (k : Int) (t : Nat) : Int := (lastP (pl.take t) k).getD (vIn ml k)
theorem lookT_zero (ml pl : List (Int × Int)) (k : Int) : lookT ml pl k 0 = vIn ml k := by simp [lookT, lastP]
theorem lookT_succ {ml pl : List (Int × Int)} {k : Int} {t : Nat} (h : t < pl.length) : lookT ml pl k (t + 1) = if (pl.getD t pz).1 = k then (pl.getD t pz).2 else lookT ml pl k t := by
  have e : pl.getD t pz = pl[t] := by simp [List.getD, h]
  rw [e]
  unfold lookT
  rw [List.take_succ_eq_append_getElem h, lastP_snoc]
  split <;> rfl
theorem lookT_all (ml pl : List (Int × Int)) (k : Int) : lookT ml pl k pl.length = see (vIn ml) (lastP pl) k := by simp [lookT, see]
def Aftered (f : Int → Int) (w : World) (e : Ending) (w' : World) : Prop := ∃ v, e = .returned v ∧ w'.ownsRow w.heap.size 58 2 v (listOf f).length (prCells (listOf f)) ∧ Below w.heap.size w w'
def AfterRel (f : Int → Int) (w : World) (j : Nat) (out : Value) (wr : World) : Prop := wr.ownsRow w.heap.size 58 2 out (accL f j).length (prCells (accL f j)) ∧ Below w.heap.size w wr
theorem after_at (mv : Value) (ml pl : List (Int × Int)) (B g off cap n : Nat) (w : World) (hB : B ≤ w.heap.size) (hm : PairsV w B mv ml) (hg : g < w.heap.size) (hn : n = pl.length) (hn1 : n ≤ 140737488351232) (hp : PairsAt w g off pl) :
    Calls Tryz.prog 55 #[mv, .slice (some ⟨g, off, none⟩) n cap] w fun e w' => Aftered (see (vIn ml) (lastP pl)) w e w' := by
  have HM : Hid (PairsV w B mv ml) := hm
  have HN : Hid (n = pl.length) := hn
  have HP : Hid (PairsAt w g off pl) := hp
  clear hm hn hp
  obtain ⟨i0, hi, hz0, hz1, hz2⟩ := info_parts Tryz.infoPair
  go_enter Tryz.func55, Tryz.ntmps55
  go_wp2
  go_loopw [5, 6] (fun out k wr => ∃ j : Nat, j ≤ 16 ∧ k = .int .i64 j ∧ AfterRel (see (vIn ml) (lastP pl)) w j out wr) (fun _ k _ => 16 - (intOf k).toNat)
  case atStart => exact ⟨0, Nat.zero_le _, rfl, World.ownsRow_nil _ _ _ _, Below.refl _ _⟩
  case round =>
    obtain ⟨j, hj, rfl, hrel⟩ := hrel
    obtain ⟨hown, hbel⟩ := hrel
    have HO : Hid (_root_.Go.World.ownsRow _ w.heap.size 58 2 _ (accL (see (vIn ml) (lastP pl)) j).length (prCells (accL (see (vIn ml) (lastP pl)) j))) := hown
    have HBl : Hid (Below w.heap.size w wr) := hbel
    clear hown hbel
    by_cases hlt : j < 16
    · go_wp2_with (go_at_call 81; refine (valueIn_any _ B ml _ _ (HM.out.below HBl.out hB)).mono ?_; rintro e wv ⟨rfl, rfl⟩)
      go_loop [7, 8] (fun v i => ∃ t : Nat, t ≤ n ∧ i = .int .i64 t ∧ v = .int .i64 (lookT ml pl j t)) (fun _ i => n - (intOf i).toNat)
      case atStart => exact ⟨0, Nat.zero_le _, rfl, by rw [lookT_zero]⟩
      case round =>
        obtain ⟨t, ht, rfl, rfl⟩ := hrel
        by_cases htn : t < n
        · have htl : t < pl.length := by rw [← HN.out]; exact htn
          obtain ⟨c0, c1⟩ := (HP.out.below HBl.out hg) t htl
          have hst := lookT_succ (ml := ml) (k := j) htl
          obtain ⟨p, hp'⟩ : ∃ p, p = pl.getD t pz := ⟨_, rfl⟩
          rw [← hp'] at c0 c1 hst
          have HSt : Hid (lookT ml pl j (t + 1) = if p.1 = (j : Int) then p.2 else lookT ml pl j t) := hst
          clear hp' hst
          obtain ⟨p1, p2⟩ := p
          simp only at c0 c1
          have m1 : (t : Int) < (n : Int) := by omega
          by_cases hk : p1 = (j : Int)
          · go_wp2
            go_round
            case rel => exact ⟨t + 1, by omega, by go_num, by rw [HSt.out, if_pos hk]⟩
            case measure => simp [intOf]; omega
          · go_wp2
            go_round
            case rel => exact ⟨t + 1, by omega, by go_num, by rw [HSt.out, if_neg hk]⟩
            case measure => simp [intOf]; omega
        · have etn : t = pl.length := by rw [← HN.out]; omega
          have hv : lookT ml pl j t = see (vIn ml) (lastP pl) j := by rw [etn]; exact lookT_all _ _ _
          obtain ⟨sv, hsv⟩ : ∃ sv, sv = see (vIn ml) (lastP pl) j := ⟨_, rfl⟩
          rw [hv, ← hsv]
          have HSv : Hid (sv = see (vIn ml) (lastP pl) j) := hsv
          have m1 : ¬ ((t : Int) < (n : Int)) := by omega
          have hal := accL_len (see (vIn ml) (lastP pl)) j
          have hsize := HBl.out.size
          clear hv hsv
          by_cases hz : 0 ≤ sv
          · go_wp2_with (at_builtin; refine wpList_append_lies _ (by rfl) (.tmp 36) (.tmp 40) 36 (by rfl) w.heap.size 58 i0 _ 2 16 Tryz.underlying36 hi hz0 hz1 hz2 (by rfl) (by decide) _ _ _ (by rfl) (HO.out.alloc _) ⟨wv.heap.size, 0, none⟩ 1 1 [.int .i64 (j : Int), .int .i64 sv] (by rfl) (by rfl) ?_ ?_ (by decide) ?_ ?_ ?_ _ (by rfl) ?_)
            · exact ⟨rfl, rfl⟩
            · unfold maxLen; omega
            · omega
            · omega
            · intro g1 cap1 w2 hown2 hgrow2 hat hlt2
              have HO2 : Hid (w2.ownsRow w.heap.size 58 2 (.slice (some ⟨g1, 0, none⟩) ((accL (see (vIn ml) (lastP pl)) j).length + 1) cap1) (accL (see (vIn ml) (lastP pl)) (j + 1)).length (prCells (accL (see (vIn ml) (lastP pl)) (j + 1)))) := by
                rw [accL_succ, ← HSv.out, if_pos hz, prCells_append, List.length_append]
                exact hown2
              have HB2 : Hid (Below w.heap.size w w2) := (HBl.out.alloc hsize _).grown hgrow2 (by simp; omega) (fun k hk => owns_ge HO.out hk)
              clear hown2 hgrow2 hat hlt2
              go_wp2
              go_roundw
              case rel => exact ⟨j + 1, by omega, by go_num, HO2.out, HB2.out⟩
              case measure => simp [intOf]; omega
          · go_wp2
            go_roundw
            case rel => exact ⟨j + 1, by omega, by go_num, by rw [accL_succ, if_neg (by rw [← HSv.out]; omega), List.append_nil]; exact HO.out, HBl.out⟩
            case measure => simp [intOf]; omega
    · go_wp2
      go_ret
      have ej : j = 16 := by omega
      subst ej
      exact ⟨_, rfl, HO.out, HBl.out⟩
theorem after_none (mv : Value) (ml : List (Int × Int)) (B cap : Nat) (ao : Option Addr) (w : World) (hB : B ≤ w.heap.size) (hm : PairsV w B mv ml) :
    Calls Tryz.prog 55 #[mv, .slice ao 0 cap] w fun e w' => Aftered (see (vIn ml) (lastP [])) w e w' := by
  have HM : Hid (PairsV w B mv ml) := hm
  clear hm
  obtain ⟨i0, hi, hz0, hz1, hz2⟩ := info_parts Tryz.infoPair
  go_enter Tryz.func55, Tryz.ntmps55
  go_wp2
  go_loopw [5, 6] (fun out k wr => ∃ j : Nat, j ≤ 16 ∧ k = .int .i64 j ∧ AfterRel (see (vIn ml) (lastP [])) w j out wr) (fun _ k _ => 16 - (intOf k).toNat)
  case atStart => exact ⟨0, Nat.zero_le _, rfl, World.ownsRow_nil _ _ _ _, Below.refl _ _⟩
  case round =>
    obtain ⟨j, hj, rfl, hrel⟩ := hrel
    obtain ⟨hown, hbel⟩ := hrel
    have HO : Hid (_root_.Go.World.ownsRow _ w.heap.size 58 2 _ (accL (see (vIn ml) (lastP [])) j).length (prCells (accL (see (vIn ml) (lastP [])) j))) := hown
    have HBl : Hid (Below w.heap.size w wr) := hbel
    clear hown hbel
    by_cases hlt : j < 16
    · go_wp2_with (go_at_call 81; refine (valueIn_any _ B ml _ _ (HM.out.below HBl.out hB)).mono ?_; rintro e wv ⟨rfl, rfl⟩)
      have hv : vIn ml j = see (vIn ml) (lastP []) j := by simp [see, lastP]
      obtain ⟨sv, hsv⟩ : ∃ sv, sv = see (vIn ml) (lastP []) j := ⟨_, rfl⟩
      rw [hv, ← hsv]
      have HSv : Hid (sv = see (vIn ml) (lastP []) j) := hsv
      have hal := accL_len (see (vIn ml) (lastP [])) j
      have hsize := HBl.out.size
      clear hv hsv
      go_loop [7, 8] (fun v i => i = .int .i64 0 ∧ v = .int .i64 sv) (fun _ _ => 0)
      case atStart => exact ⟨rfl, rfl⟩
      case round =>
        obtain ⟨rfl, rfl⟩ := hrel
        by_cases hz : 0 ≤ sv
        · go_wp2_with (at_builtin; refine wpList_append_lies _ (by rfl) (.tmp 36) (.tmp 40) 36 (by rfl) w.heap.size 58 i0 _ 2 16 Tryz.underlying36 hi hz0 hz1 hz2 (by rfl) (by decide) _ _ _ (by rfl) (HO.out.alloc _) ⟨wv.heap.size, 0, none⟩ 1 1 [.int .i64 (j : Int), .int .i64 sv] (by rfl) (by rfl) ?_ ?_ (by decide) ?_ ?_ ?_ _ (by rfl) ?_)
          · exact ⟨rfl, rfl⟩
          · unfold maxLen; omega
          · omega
          · omega
          · intro g1 cap1 w2 hown2 hgrow2 hat hlt2
            have HO2 : Hid (w2.ownsRow w.heap.size 58 2 (.slice (some ⟨g1, 0, none⟩) ((accL (see (vIn ml) (lastP [])) j).length + 1) cap1) (accL (see (vIn ml) (lastP [])) (j + 1)).length (prCells (accL (see (vIn ml) (lastP [])) (j + 1)))) := by
              rw [accL_succ, ← HSv.out, if_pos hz, prCells_append, List.length_append]
              exact hown2
            have HB2 : Hid (Below w.heap.size w w2) := (HBl.out.alloc hsize _).grown hgrow2 (by simp; omega) (fun k hk => owns_ge HO.out hk)
            clear hown2 hgrow2 hat hlt2
            go_wp2
            go_roundw
            case rel => exact ⟨j + 1, by omega, by go_num, HO2.out, HB2.out⟩
            case measure => simp [intOf]; omega
        · go_wp2
          go_roundw
          case rel => exact ⟨j + 1, by omega, by go_num, by rw [accL_succ, if_neg (by rw [← HSv.out]; omega), List.append_nil]; exact HO.out, HBl.out⟩
          case measure => simp [intOf]; omega
    · go_wp2
      go_ret
      have ej : j = 16 := by omega
      subst ej
      exact ⟨_, rfl, HO.out, HBl.out⟩
theorem after_any (mv pv : Value) (ml pl : List (Int × Int)) (w : World) (hm : PairsV w w.heap.size mv ml) (hp : PairsV w w.heap.size pv pl) :
    Calls Tryz.prog 55 #[mv, pv] w fun e w' => Aftered (see (vIn ml) (lastP pl)) w e w' := by
  obtain ⟨ao, cap, rfl, hn, h⟩ := hp
  rcases h with rfl | ⟨b, off, rfl, hb, hs⟩
  · exact after_none mv ml w.heap.size cap ao w (Nat.le_refl _) hm
  · exact after_at mv ml pl w.heap.size b off cap _ w (Nat.le_refl _) hm hb rfl hn hs
theorem isStep_1 (a b c x y : Int) (w : World) :
    Calls Tryz.prog 44 #[.agg #[.int .i64 1, .int .i64 a, .int .i64 b, .int .i64 c], .int .i64 x, .int .i64 y] w fun e w' => e = .returned (.bool (regB a && inB b 0 999 && decide (c = 0))) ∧ Below w.heap.size w w' := by
  rcases (show (regB a = false) ∨ (regB a = true ∧ inB b 0 999 = false) ∨ (regB a = true ∧ inB b 0 999 = true ∧ ¬ c = 0) ∨ (regB a = true ∧ inB b 0 999 = true ∧ c = 0) from by cases d0 : regB a <;> cases d1 : inB b 0 999 <;> by_cases d2 : c = 0 <;> simp [*]) with k0 | ⟨k0, k1⟩ | ⟨k0, k1, k2⟩ | ⟨k0, k1, k2⟩
  all_goals
    go_enter Tryz.func44, Tryz.ntmps44
    go_wp2_with (first | (go_at_call 70; refine (isRegister_any _ _).mono ?_; rintro e w' ⟨rfl, rfl⟩) | (go_at_call 71; refine (isKey_any _ _).mono ?_; rintro e w' ⟨rfl, rfl⟩) | (go_at_call 47; refine (isWithin_any _ _ _ _).mono ?_; rintro e w' ⟨rfl, rfl⟩))
    go_ret
    refine ⟨ret_bool ?_, (Below.refl _ _).alloc (Nat.le_refl _) _⟩
    simp [*]
theorem isStep_2 (a b c x y : Int) (w : World) :
    Calls Tryz.prog 44 #[.agg #[.int .i64 2, .int .i64 a, .int .i64 b, .int .i64 c], .int .i64 x, .int .i64 y] w fun e w' => e = .returned (.bool (regB a && keyB b && decide (c = 0))) ∧ Below w.heap.size w w' := by
  rcases (show (regB a = false) ∨ (regB a = true ∧ keyB b = false) ∨ (regB a = true ∧ keyB b = true ∧ ¬ c = 0) ∨ (regB a = true ∧ keyB b = true ∧ c = 0) from by cases d0 : regB a <;> cases d1 : keyB b <;> by_cases d2 : c = 0 <;> simp [*]) with k0 | ⟨k0, k1⟩ | ⟨k0, k1, k2⟩ | ⟨k0, k1, k2⟩
  all_goals
    go_enter Tryz.func44, Tryz.ntmps44
    go_wp2_with (first | (go_at_call 70; refine (isRegister_any _ _).mono ?_; rintro e w' ⟨rfl, rfl⟩) | (go_at_call 71; refine (isKey_any _ _).mono ?_; rintro e w' ⟨rfl, rfl⟩) | (go_at_call 47; refine (isWithin_any _ _ _ _).mono ?_; rintro e w' ⟨rfl, rfl⟩))
    go_ret
    refine ⟨ret_bool ?_, (Below.refl _ _).alloc (Nat.le_refl _) _⟩
    simp [*]
theorem isStep_3 (a b c x y : Int) (w : World) :
    Calls Tryz.prog 44 #[.agg #[.int .i64 3, .int .i64 a, .int .i64 b, .int .i64 c], .int .i64 x, .int .i64 y] w fun e w' => e = .returned (.bool (keyB a && regB b && decide (c = 0))) ∧ Below w.heap.size w w' := by
  rcases (show (keyB a = false) ∨ (keyB a = true ∧ regB b = false) ∨ (keyB a = true ∧ regB b = true ∧ ¬ c = 0) ∨ (keyB a = true ∧ regB b = true ∧ c = 0) from by cases d0 : keyB a <;> cases d1 : regB b <;> by_cases d2 : c = 0 <;> simp [*]) with k0 | ⟨k0, k1⟩ | ⟨k0, k1, k2⟩ | ⟨k0, k1, k2⟩
  all_goals
    go_enter Tryz.func44, Tryz.ntmps44
    go_wp2_with (first | (go_at_call 70; refine (isRegister_any _ _).mono ?_; rintro e w' ⟨rfl, rfl⟩) | (go_at_call 71; refine (isKey_any _ _).mono ?_; rintro e w' ⟨rfl, rfl⟩) | (go_at_call 47; refine (isWithin_any _ _ _ _).mono ?_; rintro e w' ⟨rfl, rfl⟩))
    go_ret
    refine ⟨ret_bool ?_, (Below.refl _ _).alloc (Nat.le_refl _) _⟩
    simp [*]
theorem isStep_4 (a b c x y : Int) (w : World) :
    Calls Tryz.prog 44 #[.agg #[.int .i64 4, .int .i64 a, .int .i64 b, .int .i64 c], .int .i64 x, .int .i64 y] w fun e w' => e = .returned (.bool (keyB a && decide (b = 0) && decide (c = 0))) ∧ Below w.heap.size w w' := by
  rcases (show (keyB a = false) ∨ (keyB a = true ∧ ¬ b = 0) ∨ (keyB a = true ∧ b = 0 ∧ ¬ c = 0) ∨ (keyB a = true ∧ b = 0 ∧ c = 0) from by cases d0 : keyB a <;> by_cases d1 : b = 0 <;> by_cases d2 : c = 0 <;> simp [*]) with k0 | ⟨k0, k1⟩ | ⟨k0, k1, k2⟩ | ⟨k0, k1, k2⟩
  all_goals
    go_enter Tryz.func44, Tryz.ntmps44
    go_wp2_with (first | (go_at_call 70; refine (isRegister_any _ _).mono ?_; rintro e w' ⟨rfl, rfl⟩) | (go_at_call 71; refine (isKey_any _ _).mono ?_; rintro e w' ⟨rfl, rfl⟩) | (go_at_call 47; refine (isWithin_any _ _ _ _).mono ?_; rintro e w' ⟨rfl, rfl⟩))
    go_ret
    refine ⟨ret_bool ?_, (Below.refl _ _).alloc (Nat.le_refl _) _⟩
    simp [*]
theorem isStep_5 (a b c x y : Int) (w : World) :
    Calls Tryz.prog 44 #[.agg #[.int .i64 5, .int .i64 a, .int .i64 b, .int .i64 c], .int .i64 x, .int .i64 y] w fun e w' => e = .returned (.bool (regB a && keyB b && keyB c && decide (b ≤ c))) ∧ Below w.heap.size w w' := by
  rcases (show (regB a = false) ∨ (regB a = true ∧ keyB b = false) ∨ (regB a = true ∧ keyB b = true ∧ keyB c = false) ∨ (regB a = true ∧ keyB b = true ∧ keyB c = true ∧ ¬ b ≤ c) ∨ (regB a = true ∧ keyB b = true ∧ keyB c = true ∧ b ≤ c) from by cases d0 : regB a <;> cases d1 : keyB b <;> cases d2 : keyB c <;> by_cases d3 : b ≤ c <;> simp [*]) with k0 | ⟨k0, k1⟩ | ⟨k0, k1, k2⟩ | ⟨k0, k1, k2, k3⟩ | ⟨k0, k1, k2, k3⟩
  all_goals
    go_enter Tryz.func44, Tryz.ntmps44
    go_wp2_with (first | (go_at_call 70; refine (isRegister_any _ _).mono ?_; rintro e w' ⟨rfl, rfl⟩) | (go_at_call 71; refine (isKey_any _ _).mono ?_; rintro e w' ⟨rfl, rfl⟩) | (go_at_call 47; refine (isWithin_any _ _ _ _).mono ?_; rintro e w' ⟨rfl, rfl⟩))
    go_ret
    refine ⟨ret_bool ?_, (Below.refl _ _).alloc (Nat.le_refl _) _⟩
    simp [*]
theorem isStep_6 (a b c x y : Int) (w : World) :
    Calls Tryz.prog 44 #[.agg #[.int .i64 6, .int .i64 a, .int .i64 b, .int .i64 c], .int .i64 x, .int .i64 y] w fun e w' => e = .returned (.bool (regB a && keyB b && keyB c && decide (b ≤ c))) ∧ Below w.heap.size w w' := by
  rcases (show (regB a = false) ∨ (regB a = true ∧ keyB b = false) ∨ (regB a = true ∧ keyB b = true ∧ keyB c = false) ∨ (regB a = true ∧ keyB b = true ∧ keyB c = true ∧ ¬ b ≤ c) ∨ (regB a = true ∧ keyB b = true ∧ keyB c = true ∧ b ≤ c) from by cases d0 : regB a <;> cases d1 : keyB b <;> cases d2 : keyB c <;> by_cases d3 : b ≤ c <;> simp [*]) with k0 | ⟨k0, k1⟩ | ⟨k0, k1, k2⟩ | ⟨k0, k1, k2, k3⟩ | ⟨k0, k1, k2, k3⟩
  all_goals
    go_enter Tryz.func44, Tryz.ntmps44
    go_wp2_with (first | (go_at_call 70; refine (isRegister_any _ _).mono ?_; rintro e w' ⟨rfl, rfl⟩) | (go_at_call 71; refine (isKey_any _ _).mono ?_; rintro e w' ⟨rfl, rfl⟩) | (go_at_call 47; refine (isWithin_any _ _ _ _).mono ?_; rintro e w' ⟨rfl, rfl⟩))
    go_ret
    refine ⟨ret_bool ?_, (Below.refl _ _).alloc (Nat.le_refl _) _⟩
    simp [*]
theorem isStep_7 (a b c x y : Int) (w : World) :
    Calls Tryz.prog 44 #[.agg #[.int .i64 7, .int .i64 a, .int .i64 b, .int .i64 c], .int .i64 x, .int .i64 y] w fun e w' => e = .returned (.bool (regB a && regB b && decide (c = 0))) ∧ Below w.heap.size w w' := by
  rcases (show (regB a = false) ∨ (regB a = true ∧ regB b = false) ∨ (regB a = true ∧ regB b = true ∧ ¬ c = 0) ∨ (regB a = true ∧ regB b = true ∧ c = 0) from by cases d0 : regB a <;> cases d1 : regB b <;> by_cases d2 : c = 0 <;> simp [*]) with k0 | ⟨k0, k1⟩ | ⟨k0, k1, k2⟩ | ⟨k0, k1, k2⟩
  all_goals
    go_enter Tryz.func44, Tryz.ntmps44
    go_wp2_with (first | (go_at_call 70; refine (isRegister_any _ _).mono ?_; rintro e w' ⟨rfl, rfl⟩) | (go_at_call 71; refine (isKey_any _ _).mono ?_; rintro e w' ⟨rfl, rfl⟩) | (go_at_call 47; refine (isWithin_any _ _ _ _).mono ?_; rintro e w' ⟨rfl, rfl⟩))
    go_ret
    refine ⟨ret_bool ?_, (Below.refl _ _).alloc (Nat.le_refl _) _⟩
    simp [*]
theorem isStep_8 (a b c x y : Int) (w : World) :
    Calls Tryz.prog 44 #[.agg #[.int .i64 8, .int .i64 a, .int .i64 b, .int .i64 c], .int .i64 x, .int .i64 y] w fun e w' => e = .returned (.bool (regB a && regB b && decide (c = 0))) ∧ Below w.heap.size w w' := by
  rcases (show (regB a = false) ∨ (regB a = true ∧ regB b = false) ∨ (regB a = true ∧ regB b = true ∧ ¬ c = 0) ∨ (regB a = true ∧ regB b = true ∧ c = 0) from by cases d0 : regB a <;> cases d1 : regB b <;> by_cases d2 : c = 0 <;> simp [*]) with k0 | ⟨k0, k1⟩ | ⟨k0, k1, k2⟩ | ⟨k0, k1, k2⟩
  all_goals
    go_enter Tryz.func44, Tryz.ntmps44
    go_wp2_with (first | (go_at_call 70; refine (isRegister_any _ _).mono ?_; rintro e w' ⟨rfl, rfl⟩) | (go_at_call 71; refine (isKey_any _ _).mono ?_; rintro e w' ⟨rfl, rfl⟩) | (go_at_call 47; refine (isWithin_any _ _ _ _).mono ?_; rintro e w' ⟨rfl, rfl⟩))
    go_ret
    refine ⟨ret_bool ?_, (Below.refl _ _).alloc (Nat.le_refl _) _⟩
    simp [*]
theorem isStep_9 (a b c x y : Int) (w : World) :
    Calls Tryz.prog 44 #[.agg #[.int .i64 9, .int .i64 a, .int .i64 b, .int .i64 c], .int .i64 x, .int .i64 y] w fun e w' => e = .returned (.bool (regB a && inB b 1 y && decide (c = 0))) ∧ Below w.heap.size w w' := by
  rcases (show (regB a = false) ∨ (regB a = true ∧ inB b 1 y = false) ∨ (regB a = true ∧ inB b 1 y = true ∧ ¬ c = 0) ∨ (regB a = true ∧ inB b 1 y = true ∧ c = 0) from by cases d0 : regB a <;> cases d1 : inB b 1 y <;> by_cases d2 : c = 0 <;> simp [*]) with k0 | ⟨k0, k1⟩ | ⟨k0, k1, k2⟩ | ⟨k0, k1, k2⟩
  all_goals
    go_enter Tryz.func44, Tryz.ntmps44
    go_wp2_with (first | (go_at_call 70; refine (isRegister_any _ _).mono ?_; rintro e w' ⟨rfl, rfl⟩) | (go_at_call 71; refine (isKey_any _ _).mono ?_; rintro e w' ⟨rfl, rfl⟩) | (go_at_call 47; refine (isWithin_any _ _ _ _).mono ?_; rintro e w' ⟨rfl, rfl⟩))
    go_ret
    refine ⟨ret_bool ?_, (Below.refl _ _).alloc (Nat.le_refl _) _⟩
    simp [*]
theorem isStep_10 (a b c x y : Int) (w : World) :
    Calls Tryz.prog 44 #[.agg #[.int .i64 10, .int .i64 a, .int .i64 b, .int .i64 c], .int .i64 x, .int .i64 y] w fun e w' => e = .returned (.bool (regB a && inB b 1 x && decide (c = 0))) ∧ Below w.heap.size w w' := by
  rcases (show (regB a = false) ∨ (regB a = true ∧ inB b 1 x = false) ∨ (regB a = true ∧ inB b 1 x = true ∧ ¬ c = 0) ∨ (regB a = true ∧ inB b 1 x = true ∧ c = 0) from by cases d0 : regB a <;> cases d1 : inB b 1 x <;> by_cases d2 : c = 0 <;> simp [*]) with k0 | ⟨k0, k1⟩ | ⟨k0, k1, k2⟩ | ⟨k0, k1, k2⟩
  all_goals
    go_enter Tryz.func44, Tryz.ntmps44
    go_wp2_with (first | (go_at_call 70; refine (isRegister_any _ _).mono ?_; rintro e w' ⟨rfl, rfl⟩) | (go_at_call 71; refine (isKey_any _ _).mono ?_; rintro e w' ⟨rfl, rfl⟩) | (go_at_call 47; refine (isWithin_any _ _ _ _).mono ?_; rintro e w' ⟨rfl, rfl⟩))
    go_ret
    refine ⟨ret_bool ?_, (Below.refl _ _).alloc (Nat.le_refl _) _⟩
    simp [*]
theorem isStep_11 (a b c x y : Int) (w : World) :
    Calls Tryz.prog 44 #[.agg #[.int .i64 11, .int .i64 a, .int .i64 b, .int .i64 c], .int .i64 x, .int .i64 y] w fun e w' => e = .returned (.bool (regB a && decide (b = 0) && decide (c = 0))) ∧ Below w.heap.size w w' := by
  rcases (show (regB a = false) ∨ (regB a = true ∧ ¬ b = 0) ∨ (regB a = true ∧ b = 0 ∧ ¬ c = 0) ∨ (regB a = true ∧ b = 0 ∧ c = 0) from by cases d0 : regB a <;> by_cases d1 : b = 0 <;> by_cases d2 : c = 0 <;> simp [*]) with k0 | ⟨k0, k1⟩ | ⟨k0, k1, k2⟩ | ⟨k0, k1, k2⟩
  all_goals
    go_enter Tryz.func44, Tryz.ntmps44
    go_wp2_with (first | (go_at_call 70; refine (isRegister_any _ _).mono ?_; rintro e w' ⟨rfl, rfl⟩) | (go_at_call 71; refine (isKey_any _ _).mono ?_; rintro e w' ⟨rfl, rfl⟩) | (go_at_call 47; refine (isWithin_any _ _ _ _).mono ?_; rintro e w' ⟨rfl, rfl⟩))
    go_ret
    refine ⟨ret_bool ?_, (Below.refl _ _).alloc (Nat.le_refl _) _⟩
    simp [*]
theorem isStep_12 (a b c x y : Int) (w : World) :
    Calls Tryz.prog 44 #[.agg #[.int .i64 12, .int .i64 a, .int .i64 b, .int .i64 c], .int .i64 x, .int .i64 y] w fun e w' => e = .returned (.bool (decide (a = 0) && decide (b = 0) && decide (c = 0))) ∧ Below w.heap.size w w' := by
  rcases (show (¬ a = 0) ∨ (a = 0 ∧ ¬ b = 0) ∨ (a = 0 ∧ b = 0 ∧ ¬ c = 0) ∨ (a = 0 ∧ b = 0 ∧ c = 0) from by by_cases d0 : a = 0 <;> by_cases d1 : b = 0 <;> by_cases d2 : c = 0 <;> simp [*]) with k0 | ⟨k0, k1⟩ | ⟨k0, k1, k2⟩ | ⟨k0, k1, k2⟩
  all_goals
    go_enter Tryz.func44, Tryz.ntmps44
    go_wp2_with (first | (go_at_call 70; refine (isRegister_any _ _).mono ?_; rintro e w' ⟨rfl, rfl⟩) | (go_at_call 71; refine (isKey_any _ _).mono ?_; rintro e w' ⟨rfl, rfl⟩) | (go_at_call 47; refine (isWithin_any _ _ _ _).mono ?_; rintro e w' ⟨rfl, rfl⟩))
    go_ret
    refine ⟨ret_bool ?_, (Below.refl _ _).alloc (Nat.le_refl _) _⟩
    simp [*]
theorem isStep_no (op a b c x y : Int) (w : World) (h : op < 1 ∨ 12 < op) :
    Calls Tryz.prog 44 #[.agg #[.int .i64 op, .int .i64 a, .int .i64 b, .int .i64 c], .int .i64 x, .int .i64 y] w fun e w' => e = .returned (.bool false) ∧ Below w.heap.size w w' := by
  rcases h with h | h
  all_goals
    go_enter Tryz.func44, Tryz.ntmps44
    go_wp2_with (first | (go_at_call 70; refine (isRegister_any _ _).mono ?_; rintro e w' ⟨rfl, rfl⟩) | (go_at_call 71; refine (isKey_any _ _).mono ?_; rintro e w' ⟨rfl, rfl⟩) | (go_at_call 47; refine (isWithin_any _ _ _ _).mono ?_; rintro e w' ⟨rfl, rfl⟩))
    go_ret
    exact ⟨rfl, (Below.refl _ _).alloc (Nat.le_refl _) _⟩
end Go.Proofs.YtlbmcdoldnajoaaGreat
