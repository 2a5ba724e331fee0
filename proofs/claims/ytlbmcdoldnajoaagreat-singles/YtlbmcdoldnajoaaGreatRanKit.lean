import Derived.Test.YtlbmcdoldnajoaaGreatCells
import Derived.Deep.RegionHeld3
import Derived.Deep.DrawnRows
import Derived.Deep.QuietTactic
import Derived.BigQuiet
import Derived.Test.YtlbmcdoldnajoaaGreatRefRun
set_option maxRecDepth 100000
set_option maxHeartbeats 400000
namespace Go.Proofs.YtlbmcdoldnajoaaGreat
open Go.RowKit
theorem wrong_any (w : World) :
    Calls Tryz.prog 43 #[] w fun e w' => e = .returned (.agg #[.int .i64 (-7), .int .i64 (-7), .int .i64 (-7), .int .i64 (-7)]) ∧ w' = w.alloc (.cells #[.int .i64 (-7), .int .i64 (-7), .int .i64 (-7), .int .i64 (-7)] 95) := by
  go_enter Tryz.func43, Tryz.ntmps43
  go_wp2
  exact bodyPost_ret (v := .agg #[.int .i64 (-7), .int .i64 (-7), .int .i64 (-7), .int .i64 (-7)]) (by simp [results, Tryz.results43, go_sem]) rfl ⟨rfl, rfl⟩
theorem Tryz.infoStep : (Tryz.prog.info? 95).map (fun i => (i.zero, i.size, i.bytes)) = some (some (.agg #[.int .i64 0, .int .i64 0, .int .i64 0, .int .i64 0]), 4, 32) := by kernel_rfl
theorem Tryz.sizeStep : (Tryz.prog.info? 95).map (·.size) = some 4 := by kernel_rfl
theorem owns_row {w : World} {base : Nat} {e : TypeId} {size g n cap : Nat} {xs : List Value} (h : w.ownsRow base e size (.slice (some ⟨g, 0, none⟩) n cap) n xs) : ∃ cur : List Value, w.heap[g]? = some (.cells cur.toArray e (0, 0)) ∧ cur.length = cap * size := by
  rcases h.2 with ⟨hv, _⟩ | ⟨g', cap', cur, hv, _, hh, _, _, hs, _⟩
  · cases hv
  · injection hv with h1 h2 h3
    injection h1 with h1
    injection h1 with h1
    subst h1; subst h3
    exact ⟨cur.toList, by simpa using hh, by simpa using hs⟩
def stw : St := ⟨-7, -7, -7, -7⟩
theorem roomy_any (v : Value) (l : List St) (w : World) (h : StepsV w v l) (hl : l.length * 32 ≤ 140737488351232) :
    Calls Tryz.prog 23 #[v] w fun e w' => ∃ g, e = .returned (.slice (some ⟨g, 0, none⟩) l.length (l.length + 1)) ∧ w.heap.size ≤ g ∧ g < w'.heap.size ∧ StepsAt w' g 0 (l ++ [stw]) ∧ Below w.heap.size w w' := by
  obtain ⟨ao, cap, rfl, h⟩ := h
  obtain ⟨n, hn⟩ : ∃ n, n = l.length := ⟨_, rfl⟩
  have HN : Hid (n = l.length) := hn
  rw [← hn] at hl ⊢
  clear hn
  have HH : Hid (l = [] ∨ ∃ b off, ao = some ⟨b, off, none⟩ ∧ b < w.heap.size ∧ StepsAt w b off l) := h
  clear h
  obtain ⟨i0, hi, hz0, hz1, hz2⟩ := info_parts Tryz.infoStep
  go_enter Tryz.func23, Tryz.ntmps23
  go_wp2_with (at_make; refine wpList_make_full _ rfl _ _ 35 rfl w.heap.size 95 i0 _ 4 Tryz.underlying35 hi hz0 hz1 _ _ _ _ (n + 1) rfl rfl (by omega) (by omega) ?b2 ?b3 (Nat.le_refl _) ?_)
  case b2 => rw [hz2]; omega
  case b3 => unfold maxLen; omega
  intro w1 hown hgrow
  obtain ⟨cur, hrow, hcl⟩ := owns_row hown
  have hb1 : Below w.heap.size w w1 := (Below.refl _ _).grown hgrow (Nat.le_refl _) (fun k h => by cases h)
  have hpos : Hid (0 < n → ∃ ad, ao = some ad ∧ ∀ j v, (stCells l)[j]? = some v → w1.cell? (ad.add j) = some v) := fun h0 => by
    rcases HH.out with rfl | ⟨b, off, rfl, hb, hs⟩
    · have := HN.out; simp at this; omega
    · exact ⟨_, rfl, (hs.below hb1 hb).cells⟩
  have hsize1 : w.heap.size < w1.heap.size := (Array.getElem?_eq_some_iff.1 hrow).1
  clear hown hgrow
  have HR : Hid (w1.heap[w.heap.size]? = some (.cells cur.toArray 95 (0, 0))) := hrow
  clear hrow
  go_wp2_with (refine wpList_copy_wide rfl (.tmp 8) (.tmp 9) 35 35 rfl 95 4 Tryz.underlying35 Tryz.sizeStep _ _ _ _ _ _ n rfl rfl (Nat.min_eq_left (Nat.le_succ n)) w.heap.size 0 cur 95 HR.out (stCells l) (by rw [length_stCells, HN.out]) (fun h0 => ⟨rfl, hpos.out h0⟩) (by rw [length_stCells, hcl, ← HN.out]; omega) (stCells_oneCell l) w.heap.size w hb1 (Nat.le_refl _) ?_)
  intro w2 hg2 hb2 hs2
  have hlen2 : (splice cur 0 (stCells l)).length = (n + 1) * 4 := by rw [length_splice _ _ _ (by rw [length_stCells, hcl, ← HN.out]; omega), hcl]
  have hcells : ∀ j, j < (n + 1) * 4 → ∃ x, w2.cell? ⟨w.heap.size, j, none⟩ = some x := fun j hj => by
    simp only [World.cell?, hg2.out]
    exact ⟨(splice cur 0 (stCells l))[j]'(by omega), by simp [hlen2, hj]⟩
  obtain ⟨x0, hx0⟩ := hcells (n * 4) (by omega)
  obtain ⟨x1, hx1⟩ := hcells (n * 4 + 1) (by omega)
  obtain ⟨x2, hx2⟩ := hcells (n * 4 + 2) (by omega)
  obtain ⟨x3, hx3⟩ := hcells (n * 4 + 3) (by omega)
  have hfr : ∀ j, w2.frozen? ⟨w.heap.size, j, none⟩ = false := fun j => by simp [World.frozen?, hg2.out]
  have hlt2 : w.heap.size < w2.heap.size := by omega
  clear hcells hs2 hsize1 hb1 hi hz0 hz1 hz2
  go_wp2_with (go_at_call 43; refine (wrong_any _).mono ?_; rintro e w' ⟨rfl, rfl⟩)
  go_ret
  have hst : StepsAt w2 w.heap.size 0 l := stepsAt_of_row (rest := cur.drop (stCells l).length) (by simpa [splice] using hg2.out)
  have hend := StepsAt.snoc (s := stw) hst (by rw [← HN.out, Nat.zero_add]; exact hx0) (by rw [← HN.out, Nat.zero_add]; exact hx1) (by rw [← HN.out, Nat.zero_add]; exact hx2) (by rw [← HN.out, Nat.zero_add]; exact hx3)
  rw [← HN.out, Nat.zero_add] at hend
  have hA := hend.alloc (by rw [size_set4]; exact hlt2) (.cells #[.int .i64 (-7), .int .i64 (-7), .int .i64 (-7), .int .i64 (-7)] 95)
  have hB := (below_set4 (b := w.heap.size) (o := n * 4) (s := stw) hb2 (Nat.le_refl _)).alloc (by rw [size_set4]; omega) (.cells #[.int .i64 (-7), .int .i64 (-7), .int .i64 (-7), .int .i64 (-7)] 95)
  unfold set4 at hA hB
  simp only [show stw.op = -7 from rfl, show stw.a = -7 from rfl, show stw.b = -7 from rfl, show stw.c = -7 from rfl] at hA hB
  exact ⟨w.heap.size, rfl, Nat.le_refl _, by simp; omega, hA, hB⟩
end Go.Proofs.YtlbmcdoldnajoaaGreat
namespace Go.Proofs.YtlbmcdoldnajoaaGreat
open Go.RowKit
attribute [local go_sem ↓] Go.wp_at_zero Go.wp_at_succ
theorem still_at (g b off cap n : Nat) (l : List St) (w : World) (hn : n = l.length) (hm : n ≤ 4398046511104) (hg : g < w.heap.size) (hb : b < w.heap.size) (ho : StepsAt w g 0 (l ++ [stw])) (hs : StepsAt w b off l) :
    Calls Tryz.prog 26 #[.slice (some ⟨g, 0, none⟩) n (n + 1), .slice (some ⟨b, off, none⟩) n cap] w fun e w' => e = .returned (.bool true) ∧ Below w.heap.size w w' := by
  have HN : Hid (n = l.length) := hn
  obtain ⟨c0, c1, c2, c3⟩ := ho n (by simp [hn])
  have e : (l ++ [stw]).getD n stz = stw := by rw [hn]; simp [List.getD]
  rw [e] at c0 c1 c2 c3
  simp only [show stw.op = -7 from rfl, show stw.a = -7 from rfl, show stw.b = -7 from rfl, show stw.c = -7 from rfl, Nat.zero_add] at c0 c1 c2 c3
  clear e hn
  have n1 : (0 : Int) ≤ (n : Int) := by omega
  have n2 : (n : Int) < ((n + 1 : Nat) : Int) := by omega
  have n3 : (n : Int) < (n : Int) + 1 := by omega
  have n4 : ¬ ((n : Int) + 1 ≤ (n : Int)) := by omega
  have n5 : n < n + 1 := by omega
  go_enter Tryz.func26, Tryz.ntmps26
  go_wp2
  go_region_held3 (fun w' => w'.cell? ⟨g, n * 4, none⟩ = some (.int .i64 (-7)) ∧ w'.cell? ⟨g, n * 4 + 1, none⟩ = some (.int .i64 (-7)) ∧ w'.cell? ⟨g, n * 4 + 2, none⟩ = some (.int .i64 (-7)) ∧ w'.cell? ⟨g, n * 4 + 3, none⟩ = some (.int .i64 (-7))) (go_keep)
    (first | (go_at_call 43; refine (wrong_any _).mono ?_; rintro e w' ⟨rfl, rfl⟩))
  clear c0 c1 c2 c3 n1 n2 n3 n4 n5
  go_wp2
  go_loopw [6] (fun i wr => ∃ k : Nat, k ≤ n ∧ i = .int .i64 k ∧ Below w.heap.size w wr) (fun i _ => n - (intOf i).toNat)
  case atStart => exact ⟨0, Nat.zero_le _, rfl, ((Below.refl _ _).alloc (Nat.le_refl _) _).drew⟩
  case round =>
    obtain ⟨k, hk, rfl, hbel⟩ := hrel
    by_cases hlt : k < n
    · have hlt' : k < l.length := by rw [← HN.out]; exact hlt
      obtain ⟨d0, d1, d2, d3⟩ := (hs.below hbel hb) k hlt'
      obtain ⟨o0, o1, o2, o3⟩ := (ho.below hbel hg) k (by simp; omega)
      have e : (l ++ [stw]).getD k stz = l.getD k stz := by simp [List.getD, List.getElem?_append_left hlt']
      rw [e, Nat.zero_add] at o0 o1 o2 o3
      obtain ⟨s, hs'⟩ : ∃ s, s = l.getD k stz := ⟨_, rfl⟩
      rw [← hs'] at d0 d1 d2 d3 o0 o1 o2 o3
      obtain ⟨op, a, b', c⟩ := s
      simp only at d0 d1 d2 d3 o0 o1 o2 o3
      clear hs' e
      have m1 : (0 : Int) ≤ (k : Int) := by omega
      have m2 : (k : Int) < (n : Int) := by omega
      go_wp2
      go_quiet (fail)
      go_wp2
      go_roundw
      case rel => exact ⟨k + 1, by omega, by go_num, below_drewN hbel _⟩
      case measure => simp [intOf]; omega
    · go_wp2
      go_ret
      exact ⟨rfl, hbel⟩
theorem still_none (g cap : Nat) (ao : Option Addr) (w : World) (ho : StepsAt w g 0 [stw]) :
    Calls Tryz.prog 26 #[.slice (some ⟨g, 0, none⟩) 0 1, .slice ao 0 cap] w fun e w' => e = .returned (.bool true) ∧ Below w.heap.size w w' := by
  obtain ⟨c0, c1, c2, c3⟩ := ho 0 (by simp)
  have e : [stw].getD 0 stz = stw := by simp [List.getD]
  rw [e] at c0 c1 c2 c3
  simp only [show stw.op = -7 from rfl, show stw.a = -7 from rfl, show stw.b = -7 from rfl, show stw.c = -7 from rfl, Nat.zero_add, Nat.zero_mul] at c0 c1 c2 c3
  clear e
  go_enter Tryz.func26, Tryz.ntmps26
  go_wp2
  go_region_held3 (fun w' => w'.cell? ⟨g, 0, none⟩ = some (.int .i64 (-7)) ∧ w'.cell? ⟨g, 1, none⟩ = some (.int .i64 (-7)) ∧ w'.cell? ⟨g, 2, none⟩ = some (.int .i64 (-7)) ∧ w'.cell? ⟨g, 3, none⟩ = some (.int .i64 (-7))) (go_keep)
    (first | (go_at_call 43; refine (wrong_any _).mono ?_; rintro e w' ⟨rfl, rfl⟩))
  clear c0 c1 c2 c3
  go_wp2
  go_loopw [6] (fun i wr => i = .int .i64 0 ∧ Below w.heap.size w wr) (fun _ _ => 0)
  case atStart => exact ⟨rfl, ((Below.refl _ _).alloc (Nat.le_refl _) _).drew⟩
  case round =>
    obtain ⟨rfl, hbel⟩ := hrel
    go_wp2
    go_ret
    exact ⟨rfl, hbel⟩
theorem still_any (g : Nat) (v : Value) (l : List St) (w : World) (hm : l.length ≤ 4398046511104) (hg : g < w.heap.size) (ho : StepsAt w g 0 (l ++ [stw])) (h : StepsV w v l) :
    Calls Tryz.prog 26 #[.slice (some ⟨g, 0, none⟩) l.length (l.length + 1), v] w fun e w' => e = .returned (.bool true) ∧ Below w.heap.size w w' := by
  obtain ⟨ao, cap, rfl, h⟩ := h
  rcases h with rfl | ⟨b, off, rfl, hb, hs⟩
  · exact still_none g cap ao w ho
  · exact still_at g b off cap _ l w rfl hm hg hb ho hs
end Go.Proofs.YtlbmcdoldnajoaaGreat
namespace Go.Proofs.YtlbmcdoldnajoaaGreat
open Go.RowKit
theorem prCells_oneCell : ∀ (l : List (Int × Int)), ∀ v ∈ prCells l, v.oneCell' = true
  | [], v, h => by cases h
  | s :: r, v, h => by
    simp only [prCells, List.mem_cons] at h
    rcases h with rfl | rfl | h
    · rfl
    · rfl
    · exact prCells_oneCell r v h
theorem PairsAt.cells {w : World} {b off : Nat} {l : List (Int × Int)} (h : PairsAt w b off l) : ∀ j v, (prCells l)[j]? = some v → w.cell? ((⟨b, off, none⟩ : Addr).add j) = some v := by
  intro j v hj
  have hlt : j < (prCells l).length := (List.getElem?_eq_some_iff.1 hj).1
  rw [length_prCells] at hlt
  have hadd : (⟨b, off, none⟩ : Addr).add j = ⟨b, off + j, none⟩ := by unfold Addr.add; split <;> simp_all
  rw [hadd]
  obtain ⟨h0, h1⟩ := h (j / 2) (by omega)
  obtain ⟨g0, g1⟩ := prCells_get l (j / 2) (by omega)
  rcases (show j = j / 2 * 2 ∨ j = j / 2 * 2 + 1 by omega) with e | e
  · rw [← e] at g0 h0; rw [hj] at g0; rw [h0, g0]
  · rw [← e] at g1; rw [hj] at g1; rw [show off + j = off + j / 2 * 2 + 1 by omega, h1, g1]
theorem pairsAt_own {w : World} {B g n cap : Nat} {e : TypeId} {xs : List Value} {l : List (Int × Int)} (h : w.ownsRow B e 2 (.slice (some ⟨g, 0, none⟩) n cap) n xs) (hl : ∀ (j : Nat) (v : Value), (prCells l)[j]? = some v → xs[j]? = some v) : PairsAt w g 0 l := by
  intro i hi
  obtain ⟨g0, g1⟩ := prCells_get l i hi
  have k0 := hl _ _ g0
  have k1 := hl _ _ g1
  have l0 := (List.getElem?_eq_some_iff.1 k0).1
  have l1 := (List.getElem?_eq_some_iff.1 k1).1
  have hx := h.1
  rw [Nat.zero_add]
  exact ⟨by rw [h.cellAt _ (by omega)]; exact k0, by rw [h.cellAt _ (by omega)]; exact k1⟩
def prw : Int × Int := (-999, -1)
theorem row_prw (l : List (Int × Int)) (rest : List Value) (hr : rest.length = 2) : ((prCells l ++ rest).set (l.length * 2) (.int .i64 (-999))).set (l.length * 2 + 1) (.int .i64 (-1)) = prCells (l ++ [prw]) := by
  have hl := length_prCells l
  match rest, hr with
  | [a, b], _ =>
    rw [List.set_append_right _ _ (by omega), hl, Nat.sub_self, List.set_append_right _ _ (by omega), hl, prCells_append]
    simp [prCells, prw]
theorem prefix_get {xs ys : List Value} {j : Nat} {v : Value} (h : xs[j]? = some v) : (xs ++ ys)[j]? = some v := by
  rw [List.getElem?_append_left (List.getElem?_eq_some_iff.1 h).1]; exact h
end Go.Proofs.YtlbmcdoldnajoaaGreat
namespace Go.Proofs.YtlbmcdoldnajoaaGreat
open Go.RowKit
theorem bec_told (x : Mo) (a v : Int) : (bec x a v).told = x.told := by unfold bec; split <;> rfl
theorem len_ite {p : Prop} [Decidable p] {a b : Mo} {n : Nat} (ha : a.told.length ≤ n) (hb : b.told.length ≤ n) : (if p then a else b).told.length ≤ n := by split <;> assumption
theorem stp_told (s : St) (m : Int → Int) (x : Mo) : (stp s m x).told.length ≤ x.told.length + 1 := by
  have h : ∀ y : Mo, y.told = x.told → y.told.length ≤ x.told.length + 1 := fun y e => by rw [e]; omega
  unfold stp
  simp only
  refine len_ite (h _ rfl) (len_ite (h _ rfl) (len_ite (h _ rfl) (len_ite (h _ rfl) (len_ite (h _ (bec_told _ _ _)) (len_ite (h _ (bec_told _ _ _)) (len_ite (h _ (bec_told _ _ _)) (len_ite (h _ (bec_told _ _ _))
    (len_ite (len_ite (h _ rfl) (h _ rfl)) (len_ite (len_ite (h _ rfl) (h _ rfl)) (len_ite ?_ (len_ite (h _ rfl) (h _ rfl))))))))))))
  simp
theorem play_told (l : List St) (m : Int → Int) : ∀ (n : Nat) (x : Mo), (play l m n x).told.length ≤ x.told.length + n
  | 0, _ => Nat.le_refl _
  | n + 1, x => by
    unfold play
    split
    · have := play_told l m n (stp (l.getD x.pc stz) m x)
      have := stp_told (l.getD x.pc stz) m x
      omega
    · omega
theorem runErr_fuelB {l : List St} {ml : List (Int × Int)} {fuel : Int} (h : runErr l ml fuel = 0) : fuel ≤ 200 := by
  unfold runErr at h
  split at h
  · cases h
  · split at h
    · cases h
    · split at h
      · cases h
      · omega
theorem runTold_len (l : List St) (ml : List (Int × Int)) (fuel : Int) : (runTold l ml fuel).length ≤ 200 := by
  unfold runTold
  split
  · rename_i h
    have h1 := runErr_fuelB h
    have := play_told l (vIn ml) fuel.toNat mo0
    unfold runMo
    simp [mo0] at this ⊢
    omega
  · simp
theorem runMap_len (l : List St) (ml : List (Int × Int)) (fuel : Int) : (runMap l ml fuel).length ≤ 16 := by
  unfold runMap
  split
  · rw [listOf_acc]; exact accL_len _ _
  · simp
theorem PairsV.wide {w : World} {B B' : Nat} {v : Value} {l : List (Int × Int)} (h : PairsV w B v l) (hB : B ≤ B') : PairsV w B' v l := by
  obtain ⟨ao, cap, rfl, hm, h⟩ := h
  refine ⟨ao, cap, rfl, hm, ?_⟩
  rcases h with h | ⟨b, off, h1, h2, h3⟩
  · exact Or.inl h
  · exact Or.inr ⟨b, off, h1, by omega, h3⟩
theorem intsV_own {w : World} {B : Nat} {v : Value} {xs : List Int} (h : w.ownsRow B 3 1 v xs.length (xs.map (Value.int .i64))) (hl : xs.length ≤ 140737488351232) : IntsV w v xs := by
  rcases h.2 with ⟨rfl, h0⟩ | ⟨g, cap, cur, rfl, _, hh, _⟩
  · have : xs = [] := List.eq_nil_of_length_eq_zero h0
    subst this
    exact ⟨none, 0, rfl, Nat.zero_le _, Or.inl rfl⟩
  · refine ⟨_, cap, rfl, hl, Or.inr ⟨g, 0, rfl, blk_lt hh, fun i hi => ?_⟩⟩
    rw [Nat.zero_add, h.cellAt i (by omega)]
    simp [List.getD, hi]
theorem pairsV_own {w : World} {B : Nat} {v : Value} {xs : List (Int × Int)} (h : w.ownsRow B 58 2 v xs.length (prCells xs)) (hl : xs.length ≤ 140737488351232) : PairsV w w.heap.size v xs := by
  obtain ⟨ao, cap, rfl, h1⟩ := owns_pairs h
  refine ⟨ao, cap, rfl, hl, ?_⟩
  rcases h1 with ⟨h1, _⟩ | ⟨g, h1, _, h2, h3⟩
  · exact Or.inl h1
  · exact Or.inr ⟨g, 0, h1, h2, h3⟩
theorem LW.below {B : Nat} {W W' : World} {pb : Nat} {dv : Value} {one : Bool} {iv pv : Value} {vs ps : List Value} (h : LW B W pb dv one iv pv vs ps) (hb : Below W.heap.size W W') : LW B W' pb dv one iv pv vs ps :=
  ⟨h.bpb, (hb.block _ (blk_lt h.blk)).trans h.blk, owns_keep h.ints hb, owns_keep h.prs hb, fun i v hv => by obtain ⟨n, h1, h2⟩ := h.ki i v hv; exact ⟨n, h1, owns_keep h2 hb⟩, fun i v hv => by obtain ⟨n, h1, h2⟩ := h.kp i v hv; exact ⟨n, h1, owns_keep h2 hb⟩, h.i4, h.p4⟩
theorem owns_lt {w : World} {B : Nat} {e : TypeId} {s : Nat} {v : Value} {n : Nat} {xs : List Value} (h : w.ownsRow B e s v n xs) {k : Nat} (hk : v.ownBlock = some k) : B ≤ k ∧ k < w.heap.size := by
  rcases h.2 with ⟨rfl, _⟩ | ⟨g, cap, cur, rfl, hb, hh, _⟩
  · cases hk
  · injection hk with hk; have hk : g = k := hk; subst hk; exact ⟨hb, blk_lt hh⟩
theorem own_types {w : World} {B B' : Nat} {e e' : TypeId} {s s' : Nat} {u v : Value} {n n' : Nat} {xs ys : List Value} (h : w.ownsRow B e s u n xs) (h' : w.ownsRow B' e' s' v n' ys) (he : e ≠ e') {k : Nat} (hu : u.ownBlock = some k) (hv : v.ownBlock = some k) : False := by
  rcases h'.2 with ⟨rfl, _⟩ | ⟨g, cap, cur, rfl, _, hh, _⟩
  · cases hv
  · injection hv with hv; have hv : g = k := hv; subst hv; exact owns_ne h hh he hu
theorem LW.freshI {B C : Nat} {W W' : World} {pb : Nat} {dv : Value} {one : Bool} {iv pv : Value} {vs ps : List Value} (h : LW B W pb dv one iv pv vs ps) {e : TypeId} {s : Nat} {lv : Value} {n : Nat} {xs : List Value} (hl : W'.ownsRow C e s lv n xs) (hC : W.heap.size ≤ C) : FreshTo vs lv := fun i v k hv hk e => by
  obtain ⟨n, _, h2⟩ := h.ki i v hv
  have := owns_lt h2 hk
  have := owns_lt hl e
  omega
theorem LW.freshP {B C : Nat} {W W' : World} {pb : Nat} {dv : Value} {one : Bool} {iv pv : Value} {vs ps : List Value} (h : LW B W pb dv one iv pv vs ps) {e : TypeId} {s : Nat} {lv : Value} {n : Nat} {xs : List Value} (hl : W'.ownsRow C e s lv n xs) (hC : W.heap.size ≤ C) : FreshTo ps lv := fun i v k hv hk e => by
  obtain ⟨n, _, h2⟩ := h.kp i v hv
  have := owns_lt h2 hk
  have := owns_lt hl e
  omega
theorem StepsAt.same {w w' : World} {b off : Nat} {l : List St} (h : StepsAt w b off l) (hb : w'.heap[b]? = w.heap[b]?) : StepsAt w' b off l := fun i hi => by
  have e : ∀ o, w'.cell? ⟨b, o, none⟩ = w.cell? ⟨b, o, none⟩ := fun o => World.cell?_of_block (w := w) hb
  obtain ⟨h0, h1, h2, h3⟩ := h i hi
  exact ⟨(e _).trans h0, (e _).trans h1, (e _).trans h2, (e _).trans h3⟩
theorem owns_same {w w' : World} {B : Nat} {e : TypeId} {s g n cap : Nat} {xs : List Value} (h : w.ownsRow B e s (.slice (some ⟨g, 0, none⟩) n cap) n xs) (hb : w'.heap[g]? = w.heap[g]?) : w'.ownsRow B e s (.slice (some ⟨g, 0, none⟩) n cap) n xs := by
  refine ⟨h.1, ?_⟩
  rcases h.2 with ⟨hv, _⟩ | ⟨g', cap', cur, hv, hB, hh, r⟩
  · cases hv
  · have : g = g' := by injection hv with h1; injection h1 with h1; injection h1
    subst this
    exact Or.inr ⟨g, cap', cur, hv, hB, hb.trans hh, r⟩
def RunOK : Prop := ∀ (v mv : Value) (l : List St) (ml : List (Int × Int)) (fuel : Int) (w : World), StepsV w v l → PairsV w w.heap.size mv ml →
    Calls Tryz.prog 27 #[v, mv, .int .i64 fuel] w fun e w' => Ran l ml fuel w e w'
theorem Tryz.sizePair : (Tryz.prog.info? 58).map (·.size) = some 2 := by kernel_rfl
end Go.Proofs.YtlbmcdoldnajoaaGreat
