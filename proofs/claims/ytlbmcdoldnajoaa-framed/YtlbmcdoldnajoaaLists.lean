/- Lists1, Lists2 -/
import Derived.Test.YtlbmcdoldnajoaaPick

/- pivotkeep's 'holds', 'without', 'pairs'. -/
namespace Go.Proofs.Ytlbmcdoldnajoaa
open Go.RowKit

set_option maxRecDepth 100000 in
set_option maxHeartbeats 400000 in
theorem holds_at (b off cap : Nat) (l : List (Int × Int)) (k : Int) (w : World) (hm : l.length ≤ 140737488351232) (hs : PairsAt w b off l) :
    Calls Try.prog 31 #[.slice (some ⟨b, off, none⟩) l.length cap, .int .i64 k] w fun e w' => e = .returned (.int .i64 (vIn l k)) ∧ w' = w := by
  obtain ⟨n, hn⟩ : ∃ n, n = l.length := ⟨_, rfl⟩
  have HN : Hid (n = l.length) := hn
  rw [← hn] at hm ⊢
  clear hn
  go_enter Try.func31, Try.ntmps31
  go_wp2
  go_loop [5] (fun i => ∃ j : Nat, j ≤ n ∧ i = .int .i64 j ∧ (∀ t, t < j → (l.getD t pz).1 ≠ k)) (fun i => n - (intOf i).toNat)
  case atStart => exact ⟨0, Nat.zero_le _, rfl, fun t ht => absurd ht (Nat.not_lt_zero _)⟩
  case round =>
    obtain ⟨j, hj, rfl, hall⟩ := hrel
    have HA : Hid (∀ t, t < j → (l.getD t pz).1 ≠ k) := hall
    clear hall
    by_cases hlt : j < n
    · have hlt' : j < l.length := by rw [← HN.out]; exact hlt
      obtain ⟨c0, c1⟩ := hs j hlt'
      obtain ⟨p, hp⟩ : ∃ p, p = l.getD j pz := ⟨_, rfl⟩
      rw [← hp] at c0 c1
      have HP : Hid (p = l.getD j pz) := hp
      clear hp
      obtain ⟨p1, p2⟩ := p
      simp only at c0 c1
      by_cases hk : p1 = k
      · subst hk
        go_wp2
        go_ret
        exact ⟨ret_int ((vIn_at hlt' HA.out (by rw [← HP.out])).trans (by rw [← HP.out])).symm, rfl⟩
      · go_wp2
        go_round
        case rel =>
          refine ⟨j + 1, by omega, by go_num, fun t ht => ?_⟩
          by_cases htj : t = j
          · subst htj; rw [← HP.out]; exact hk
          · exact HA.out t (by omega)
        case measure => simp [intOf]; omega
    · go_wp2
      go_ret
      exact ⟨ret_int (vIn_none (fun t ht => HA.out t (by have := HN.out; omega))).symm, rfl⟩

set_option maxRecDepth 100000 in
set_option maxHeartbeats 400000 in
theorem holds_none (ao : Option Addr) (cap : Nat) (k : Int) (w : World) :
    Calls Try.prog 31 #[.slice ao 0 cap, .int .i64 k] w fun e w' => e = .returned (.int .i64 (-1)) ∧ w' = w := by
  go_enter Try.func31, Try.ntmps31
  go_wp2
  go_loop [5] (fun i => i = .int .i64 0) (fun _ => 0)
  case atStart => rfl
  case round =>
    subst hrel
    go_wp2
    go_ret
    exact ⟨rfl, rfl⟩

theorem holds_any (v : Value) (B : Nat) (l : List (Int × Int)) (k : Int) (w : World) (h : PairsV w B v l) :
    Calls Try.prog 31 #[v, .int .i64 k] w fun e w' => e = .returned (.int .i64 (vIn l k)) ∧ w' = w := by
  obtain ⟨ao, cap, rfl, hm, h⟩ := h
  rcases h with rfl | ⟨b, off, rfl, hb, hs⟩
  · exact holds_none ao cap k w
  · exact holds_at b off cap l k w hm hs

/-- a map without a key -/
def wo (k : Int) (l : List (Int × Int)) : List (Int × Int) := l.filter fun p => decide (p.1 ≠ k)
def woT (k : Int) (l : List (Int × Int)) (t : Nat) : List (Int × Int) := wo k (l.take t)
theorem woT_succ {k : Int} {l : List (Int × Int)} {t : Nat} (h : t < l.length) : woT k l (t + 1) = woT k l t ++ if (l.getD t pz).1 = k then [] else [l.getD t pz] := by
  have e : l.getD t pz = l[t] := by simp [List.getD, h]
  unfold woT wo
  rw [List.take_succ_eq_append_getElem h, List.filter_append, e]
  congr 1
  by_cases hk : l[t].1 = k <;> simp [hk]
theorem woT_len (k : Int) (l : List (Int × Int)) (t : Nat) : (woT k l t).length ≤ t := by
  unfold woT wo
  have := List.length_filter_le (fun p : Int × Int => decide (p.1 ≠ k)) (l.take t)
  have := List.length_take_le t l
  omega

/-- a list of pairs of one's own -/
def PairsNew (l : List (Int × Int)) (w : World) (e : Ending) (w' : World) : Prop := ∃ v, e = .returned v ∧ w'.ownsRow w.heap.size 42 2 v l.length (prCells l) ∧ Below w.heap.size w w'
def PairsRel (l : List (Int × Int)) (w : World) (out : Value) (wr : World) : Prop := wr.ownsRow w.heap.size 42 2 out l.length (prCells l) ∧ Below w.heap.size w wr

set_option maxRecDepth 100000 in
set_option maxHeartbeats 2000000 in
theorem without_at (l : List (Int × Int)) (k : Int) (g off cap n : Nat) (w : World) (hg : g < w.heap.size) (hn : n = l.length) (hn1 : n ≤ 1000) (hp : PairsAt w g off l) :
    Calls Try.prog 29 #[.slice (some ⟨g, off, none⟩) n cap, .int .i64 k] w fun e w' => PairsNew (wo k l) w e w' := by
  have HN : Hid (n = l.length) := hn
  have HP : Hid (PairsAt w g off l) := hp
  clear hn hp
  obtain ⟨i0, hi, hz0, hz1, hz2⟩ := info_parts Try.infoPair
  go_enter Try.func29, Try.ntmps29
  go_wp2
  go_loopw [5, 6] (fun out i wr => ∃ j : Nat, j ≤ n ∧ i = .int .i64 j ∧ PairsRel (woT k l j) w out wr) (fun _ i _ => n - (intOf i).toNat)
  case atStart => exact ⟨0, Nat.zero_le _, rfl, World.ownsRow_nil _ _ _ _, Below.refl _ _⟩
  case round =>
    obtain ⟨j, hj, rfl, hrel⟩ := hrel
    obtain ⟨hown, hbel⟩ := hrel
    have HO : Hid (_root_.Go.World.ownsRow _ w.heap.size 42 2 _ (woT k l j).length (prCells (woT k l j))) := hown
    have HBl : Hid (Below w.heap.size w wr) := hbel
    clear hown hbel
    by_cases hlt : j < n
    · have hlt' : j < l.length := by rw [← HN.out]; exact hlt
      obtain ⟨c0, c1⟩ := (HP.out.below HBl.out hg) j hlt'
      have hst := woT_succ (k := k) hlt'
      obtain ⟨p, hp'⟩ : ∃ p, p = l.getD j pz := ⟨_, rfl⟩
      rw [← hp'] at c0 c1 hst
      have HSt : Hid (woT k l (j + 1) = woT k l j ++ if p.1 = k then [] else [p]) := hst
      have hal := woT_len k l j
      have hsize := HBl.out.size
      clear hp' hst
      obtain ⟨p1, p2⟩ := p
      simp only at c0 c1
      have m1 : (j : Int) < (n : Int) := by omega
      by_cases hk : p1 = k
      · go_wp2
        go_roundw
        case rel => exact ⟨j + 1, by omega, by go_num, by rw [HSt.out, if_pos hk, List.append_nil]; exact HO.out, HBl.out⟩
        case measure => simp [intOf]; omega
      · go_wp2_with (at_builtin; refine wpList_append_lies _ (by rfl) (.tmp 20) (.tmp 25) 24 (by rfl) w.heap.size 42 i0 _ 2 16 Try.underlying24 hi hz0 hz1 hz2 (by rfl) (by decide) _ _ _ (by rfl) (HO.out.alloc _) ⟨wr.heap.size, 0, none⟩ 1 1 [.int .i64 p1, .int .i64 p2] (by rfl) (by rfl) ?_ ?_ (by decide) ?_ ?_ ?_ _ (by rfl) ?_)
        · exact ⟨rfl, rfl⟩
        · unfold maxLen; omega
        · omega
        · omega
        · intro g1 cap1 w2 hown2 hgrow2 hat hlt2
          have HO2 : Hid (w2.ownsRow w.heap.size 42 2 (.slice (some ⟨g1, 0, none⟩) ((woT k l j).length + 1) cap1) (woT k l (j + 1)).length (prCells (woT k l (j + 1)))) := by
            rw [HSt.out, if_neg hk, prCells_append, List.length_append]
            exact hown2
          have HB2 : Hid (Below w.heap.size w w2) := (HBl.out.alloc hsize _).grown hgrow2 (by simp; omega) (fun k hk => owns_ge HO.out hk)
          clear hown2 hgrow2 hat hlt2
          go_wp2
          go_roundw
          case rel => exact ⟨j + 1, by omega, by go_num, HO2.out, HB2.out⟩
          case measure => simp [intOf]; omega
    · go_wp2
      go_ret
      have ej : j = l.length := by have := HN.out; omega
      have e : woT k l j = wo k l := by rw [ej]; unfold woT; rw [List.take_length]
      exact ⟨_, rfl, by rw [← e]; exact HO.out, HBl.out⟩

end Go.Proofs.Ytlbmcdoldnajoaa

/- pivotkeep's 'without' whole, 'pairs', 'named', 'every'. -/
namespace Go.Proofs.Ytlbmcdoldnajoaa
open Go.RowKit

set_option maxRecDepth 100000 in
set_option maxHeartbeats 400000 in
theorem without_none (ao : Option Addr) (cap : Nat) (k : Int) (w : World) :
    Calls Try.prog 29 #[.slice ao 0 cap, .int .i64 k] w fun e w' => PairsNew [] w e w' := by
  go_enter Try.func29, Try.ntmps29
  go_wp2
  go_loop [5, 6] (fun out i => out = .slice none 0 0 ∧ i = .int .i64 0) (fun _ _ => 0)
  case atStart => exact ⟨rfl, rfl⟩
  case round =>
    obtain ⟨rfl, rfl⟩ := hrel
    go_wp2
    go_ret
    exact ⟨_, rfl, World.ownsRow_nil _ _ _ _, Below.refl _ _⟩

theorem without_any (v : Value) (l : List (Int × Int)) (k : Int) (w : World) (hl : l.length ≤ 1000) (h : PairsV w w.heap.size v l) :
    Calls Try.prog 29 #[v, .int .i64 k] w fun e w' => PairsNew (wo k l) w e w' := by
  obtain ⟨ao, cap, rfl, hm, h⟩ := h
  rcases h with rfl | ⟨b, off, rfl, hb, hs⟩
  · exact without_none ao cap k w
  · exact without_at l k b off cap _ w hb rfl hl hs

set_option maxRecDepth 100000 in
set_option maxHeartbeats 400000 in
theorem every_any (w : World) :
    Calls Try.prog 25 #[] w fun e w' => e = .returned (.agg #[.int .i64 0, .int .i64 16]) ∧ Below w.heap.size w w' := by
  go_enter Try.func25, Try.ntmps25
  go_wp2
  exact bodyPost_ret (v := .agg #[.int .i64 0, .int .i64 16]) (by simp [results, Try.results25, go_sem]) rfl ⟨rfl, (Below.refl _ _).alloc (Nat.le_refl _) _⟩

/-- the map that numbers speak of -/
def valF (l : List Int) (k : Int) : Int := pickI (l.getD k.toNat 0) 10001 - 1
def mapL (l : List Int) : List (Int × Int) := accL (valF l) (Nat.min 16 l.length)

set_option maxRecDepth 100000 in
set_option maxHeartbeats 2000000 in
theorem pairs_at (l : List Int) (g off cap n : Nat) (w : World) (hg : g < w.heap.size) (hn : n = l.length) (hi64 : ∀ x ∈ l, i64B x) (hp : ∀ i, i < l.length → w.cell? ⟨g, off + i, none⟩ = some (.int .i64 (l.getD i 0))) :
    Calls Try.prog 26 #[.slice (some ⟨g, off, none⟩) n cap] w fun e w' => PairsNew (mapL l) w e w' := by
  have HN : Hid (n = l.length) := hn
  have HP : Hid (∀ i, i < l.length → w.cell? ⟨g, off + i, none⟩ = some (.int .i64 (l.getD i 0))) := hp
  have HI : Hid (∀ x ∈ l, i64B x) := hi64
  clear hn hp hi64
  obtain ⟨i0, hi, hz0, hz1, hz2⟩ := info_parts Try.infoPair
  go_enter Try.func26, Try.ntmps26
  go_wp2
  go_loopw [3, 4] (fun out i wr => ∃ j : Nat, j ≤ 16 ∧ j ≤ n ∧ i = .int .i64 j ∧ PairsRel (accL (valF l) j) w out wr) (fun _ i _ => 16 - (intOf i).toNat)
  case atStart => exact ⟨0, Nat.zero_le _, Nat.zero_le _, rfl, World.ownsRow_nil _ _ _ _, Below.refl _ _⟩
  case round =>
    obtain ⟨j, hj, hjn, rfl, hrel⟩ := hrel
    obtain ⟨hown, hbel⟩ := hrel
    have HO : Hid (_root_.Go.World.ownsRow _ w.heap.size 42 2 _ (accL (valF l) j).length (prCells (accL (valF l) j))) := hown
    have HBl : Hid (Below w.heap.size w wr) := hbel
    clear hown hbel
    by_cases h16 : j < 16
    · by_cases hlt : j < n
      · have hlt' : j < l.length := by rw [← HN.out]; exact hlt
        have c0 := (HBl.out.cell (p := ⟨g, off + j, none⟩) hg).trans (HP.out j hlt')
        have hb : i64B (l.getD j 0) := HI.out _ (by simp [List.getD, hlt'])
        have hst := accL_succ (valF l) j
        have hv : valF l j = pickI (l.getD j 0) 10001 - 1 := by simp [valF]
        rw [hv] at hst
        have HSt : Hid (accL (valF l) (j + 1) = accL (valF l) j ++ if 0 ≤ pickI (l.getD j 0) 10001 - 1 then [((j : Int), pickI (l.getD j 0) 10001 - 1)] else []) := hst
        have hal := accL_len (valF l) j
        have hsize := HBl.out.size
        clear hst hv
        obtain ⟨x, hx⟩ : ∃ x, x = l.getD j 0 := ⟨_, rfl⟩
        rw [← hx] at c0 hb HSt
        have HXB : Hid (i64B x) := hb
        have plo := pickI_lo x (n := 10001) (by omega)
        have phi := pickI_hi x (n := 10001) (by omega)
        obtain ⟨y, hy⟩ : ∃ y, y = pickI x 10001 := ⟨_, rfl⟩
        have HY : Hid (y = pickI x 10001) := hy
        rw [← hy] at plo phi HSt
        clear hx hb hy
        have m1 : (j : Int) < (n : Int) := by omega
        have m2 : (j : Int) < 16 := by omega
        by_cases hz : 0 ≤ y - 1
        · go_wp2_with (first | (go_at_call 19; refine (pick_any x 10001 _ HXB.out (by omega) (by omega)).mono ?_; rintro e wv ⟨rfl, h⟩; obtain rfl := h.symm; rw [← HY.out]) | (at_builtin; refine wpList_append_lies _ (by rfl) (.tmp 24) (.tmp 28) 24 (by rfl) w.heap.size 42 i0 _ 2 16 Try.underlying24 hi hz0 hz1 hz2 (by rfl) (by decide) _ _ _ (by rfl) (HO.out.alloc _) ⟨wr.heap.size, 0, none⟩ 1 1 [.int .i64 (j : Int), .int .i64 (y - 1)] (by rfl) (by rfl) ?_ ?_ (by decide) ?_ ?_ ?_ _ (by rfl) ?_))
          · exact World.news_of_block (heap_alloc_new _ _)
          · intro u hu; simp at hu; rcases hu with rfl | rfl <;> rfl
          · unfold maxLen; omega
          · omega
          · simp; omega
          · intro g1 cap1 w2 hown2 hgrow2 hat hlt2
            have HO2 : Hid (w2.ownsRow w.heap.size 42 2 (.slice (some ⟨g1, 0, none⟩) ((accL (valF l) j).length + 1) cap1) (accL (valF l) (j + 1)).length (prCells (accL (valF l) (j + 1)))) := by
              rw [HSt.out, if_pos hz, prCells_append, List.length_append]
              exact hown2
            have HB2 : Hid (Below w.heap.size w w2) := (HBl.out.alloc hsize _).grown hgrow2 (by simp; omega) (fun k hk => owns_ge HO.out hk)
            clear hown2 hgrow2 hat hlt2
            go_wp2
            go_roundw
            case rel => exact ⟨j + 1, by omega, by omega, by go_num, HO2.out, HB2.out⟩
            case measure => simp [intOf]; omega
        · go_wp2_with (go_at_call 19; refine (pick_any x 10001 _ HXB.out (by omega) (by omega)).mono ?_; rintro e wv ⟨rfl, h⟩; obtain rfl := h.symm; rw [← HY.out])
          go_roundw
          case rel => exact ⟨j + 1, by omega, by omega, by go_num, by rw [HSt.out, if_neg (by omega), List.append_nil]; exact HO.out, HBl.out⟩
          case measure => simp [intOf]; omega
      · have m1 : ¬ ((j : Int) < (n : Int)) := by omega
        have m2 : (j : Int) < 16 := by omega
        go_wp2
        go_ret
        have e : mapL l = accL (valF l) j := by unfold mapL; rw [← HN.out, show Nat.min 16 n = j from by show min 16 n = j; omega]
        exact ⟨_, rfl, by rw [e]; exact HO.out, HBl.out⟩
    · have m2 : ¬ ((j : Int) < 16) := by omega
      go_wp2
      go_ret
      have e : mapL l = accL (valF l) j := by unfold mapL; rw [← HN.out, show Nat.min 16 n = j from by show min 16 n = j; omega]
      exact ⟨_, rfl, by rw [e]; exact HO.out, HBl.out⟩

set_option maxRecDepth 100000 in
set_option maxHeartbeats 400000 in
theorem pairs_none (ao : Option Addr) (cap : Nat) (w : World) :
    Calls Try.prog 26 #[.slice ao 0 cap] w fun e w' => PairsNew [] w e w' := by
  go_enter Try.func26, Try.ntmps26
  go_wp2
  go_loop [3, 4] (fun out i => out = .slice none 0 0 ∧ i = .int .i64 0) (fun _ _ => 0)
  case atStart => exact ⟨rfl, rfl⟩
  case round =>
    obtain ⟨rfl, rfl⟩ := hrel
    go_wp2
    go_ret
    exact ⟨_, rfl, World.ownsRow_nil _ _ _ _, Below.refl _ _⟩

theorem pairs_any (v : Value) (l : List Int) (w : World) (hi : ∀ x ∈ l, i64B x) (h : IntsV w v l) :
    Calls Try.prog 26 #[v] w fun e w' => PairsNew (mapL l) w e w' := by
  obtain ⟨ao, cap, rfl, hm, h⟩ := h
  rcases h with rfl | ⟨b, off, rfl, hb, hs⟩
  · exact pairs_none ao cap w
  · exact pairs_at l b off cap _ w hb rfl hi hs

end Go.Proofs.Ytlbmcdoldnajoaa
