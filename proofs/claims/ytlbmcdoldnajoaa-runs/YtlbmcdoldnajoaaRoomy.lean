/- The caller's list with spare room: 'wrong', 'roomy'. -/
import Derived.Test.YtlbmcdoldnajoaaCells
namespace Go.Proofs.Ytlbmcdoldnajoaa
open Go.RowKit

set_option maxRecDepth 100000 in
set_option maxHeartbeats 400000 in
theorem wrong_any (w : World) :
    Calls Try.prog 77 #[] w fun e w' => e = .returned (.agg #[.int .i64 (-7), .int .i64 (-7), .int .i64 (-7), .int .i64 (-7)]) ∧ w' = w.alloc (.cells #[.int .i64 (-7), .int .i64 (-7), .int .i64 (-7), .int .i64 (-7)] 40) := by
  go_enter Try.func77, Try.ntmps77
  go_wp2
  exact bodyPost_ret (v := .agg #[.int .i64 (-7), .int .i64 (-7), .int .i64 (-7), .int .i64 (-7)]) (by simp [results, Try.results77, go_sem]) rfl ⟨rfl, rfl⟩

theorem Try.infoStep : (Try.prog.info? 40).map (fun i => (i.zero, i.size, i.bytes)) = some (some (.agg #[.int .i64 0, .int .i64 0, .int .i64 0, .int .i64 0]), 4, 32) := by kernel_rfl
theorem Try.sizeStep : (Try.prog.info? 40).map (·.size) = some 4 := by kernel_rfl

theorem owns_row {w : World} {base : Nat} {e : TypeId} {size g n cap : Nat} {xs : List Value} (h : w.ownsRow base e size (.slice (some ⟨g, 0, none⟩) n cap) n xs) : ∃ cur : List Value, w.heap[g]? = some (.cells cur.toArray e (0, 0)) ∧ cur.length = cap * size := by
  rcases h.2 with ⟨hv, _⟩ | ⟨g', cap', cur, hv, _, hh, _, _, hs, _⟩
  · cases hv
  · injection hv with h1 h2 h3
    injection h1 with h1
    injection h1 with h1
    subst h1; subst h3
    exact ⟨cur.toList, by simpa using hh, by simpa using hs⟩

/-- a step that no job has -/
def stw : St := ⟨-7, -7, -7, -7⟩

set_option maxRecDepth 100000 in
set_option maxHeartbeats 400000 in
theorem roomy_any (v : Value) (l : List St) (w : World) (h : StepsV w v l) (hl : l.length * 32 ≤ 140737488351232) :
    Calls Try.prog 42 #[v] w fun e w' => ∃ g, e = .returned (.slice (some ⟨g, 0, none⟩) l.length (l.length + 1)) ∧ w.heap.size ≤ g ∧ g < w'.heap.size ∧ StepsAt w' g 0 (l ++ [stw]) ∧ Below w.heap.size w w' := by
  obtain ⟨ao, cap, rfl, h⟩ := h
  obtain ⟨n, hn⟩ : ∃ n, n = l.length := ⟨_, rfl⟩
  have HN : Hid (n = l.length) := hn
  rw [← hn] at hl ⊢
  clear hn
  have HH : Hid (l = [] ∨ ∃ b off, ao = some ⟨b, off, none⟩ ∧ b < w.heap.size ∧ StepsAt w b off l) := h
  clear h
  obtain ⟨i0, hi, hz0, hz1, hz2⟩ := info_parts Try.infoStep
  go_enter Try.func42, Try.ntmps42
  go_wp2_with (at_make; refine wpList_make_full _ rfl _ _ 22 rfl w.heap.size 40 i0 _ 4 Try.underlying22 hi hz0 hz1 _ _ _ _ (n + 1) rfl rfl (by omega) (by omega) ?b2 ?b3 (Nat.le_refl _) ?_)
  case b2 => rw [hz2]; omega
  case b3 => unfold maxLen; omega
  intro w1 hown hgrow
  obtain ⟨cur, hrow, hcl⟩ := owns_row hown
  have hb1 : Below w.heap.size w w1 := (Below.refl _ _).grown hgrow (Nat.le_refl _) (fun k h => by cases h)
  have hpos : Hid (0 < n → ∃ ad, ao = some ad ∧ ∀ j v, (stCells l)[j]? = some v → w1.cell? (ad.add j) = some v) := fun h0 => by
    rcases HH.out with rfl | ⟨b, off, rfl, hb, hs⟩
    · have := HN.out; simp at this; omega
    · exact ⟨_, rfl, (hs.below hb1 hb).cells⟩
  have hsize1 : w.heap.size < w1.heap.size := (Array.getElem?_eq_some_iff.1 hrow).1
  clear hown hgrow
  have HR : Hid (w1.heap[w.heap.size]? = some (.cells cur.toArray 40 (0, 0))) := hrow
  clear hrow
  go_wp2_with (refine wpList_copy_wide rfl (.tmp 8) (.tmp 9) 22 22 rfl 40 4 Try.underlying22 Try.sizeStep _ _ _ _ _ _ n rfl rfl (Nat.min_eq_left (Nat.le_succ n)) w.heap.size 0 cur 40 HR.out (stCells l) (by rw [length_stCells, HN.out]) (fun h0 => ⟨rfl, hpos.out h0⟩) (by rw [length_stCells, hcl, ← HN.out]; omega) (stCells_oneCell l) w.heap.size w hb1 (Nat.le_refl _) ?_)
  intro w2 hg2 hb2 hs2
  have hlen2 : (splice cur 0 (stCells l)).length = (n + 1) * 4 := by rw [length_splice _ _ _ (by rw [length_stCells, hcl, ← HN.out]; omega), hcl]
  have hcells : ∀ j, j < (n + 1) * 4 → ∃ x, w2.cell? ⟨w.heap.size, j, none⟩ = some x := fun j hj => by
    simp only [World.cell?, hg2.out]
    exact ⟨(splice cur 0 (stCells l))[j]'(by omega), by simp [hlen2, hj]⟩
  obtain ⟨x0, hx0⟩ := hcells (n * 4) (by omega)
  obtain ⟨x1, hx1⟩ := hcells (n * 4 + 1) (by omega)
  obtain ⟨x2, hx2⟩ := hcells (n * 4 + 2) (by omega)
  obtain ⟨x3, hx3⟩ := hcells (n * 4 + 3) (by omega)
  have hfr : ∀ j, w2.frozen? ⟨w.heap.size, j, none⟩ = false := fun j => by simp [World.frozen?, hg2.out]
  have hlt2 : w.heap.size < w2.heap.size := by omega
  clear hcells hs2 hsize1 hb1 hi hz0 hz1 hz2
  go_wp2_with (go_at_call 77; refine (wrong_any _).mono ?_; rintro e w' ⟨rfl, rfl⟩)
  go_ret
  have hst : StepsAt w2 w.heap.size 0 l := stepsAt_of_row (rest := cur.drop (stCells l).length) (by simpa [splice] using hg2.out)
  have hend := StepsAt.snoc (s := stw) hst (by rw [← HN.out, Nat.zero_add]; exact hx0) (by rw [← HN.out, Nat.zero_add]; exact hx1) (by rw [← HN.out, Nat.zero_add]; exact hx2) (by rw [← HN.out, Nat.zero_add]; exact hx3)
  rw [← HN.out, Nat.zero_add] at hend
  have hA := hend.alloc (by rw [size_set4]; exact hlt2) (.cells #[.int .i64 (-7), .int .i64 (-7), .int .i64 (-7), .int .i64 (-7)] 40)
  have hB := (below_set4 (b := w.heap.size) (o := n * 4) (s := stw) hb2 (Nat.le_refl _)).alloc (by rw [size_set4]; omega) (.cells #[.int .i64 (-7), .int .i64 (-7), .int .i64 (-7), .int .i64 (-7)] 40)
  unfold set4 at hA hB
  simp only [show stw.op = -7 from rfl, show stw.a = -7 from rfl, show stw.b = -7 from rfl, show stw.c = -7 from rfl] at hA hB
  exact ⟨w.heap.size, rfl, Nat.le_refl _, by simp; omega, hA, hB⟩

end Go.Proofs.Ytlbmcdoldnajoaa
