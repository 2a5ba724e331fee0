/- Pairs as rows of cells: plain facts. -/
import Derived.Test.YtlbmcdoldnajoaaWhole
import Derived.Test.YtlbmcdoldnajoaaRefRun
import Derived.Test.YtlbmcdoldnajoaaStill
namespace Go.Proofs.Ytlbmcdoldnajoaa
open Go.RowKit

theorem prCells_oneCell : ∀ (l : List (Int × Int)), ∀ v ∈ prCells l, v.oneCell' = true
  | [], v, h => by cases h
  | s :: r, v, h => by
    simp only [prCells, List.mem_cons] at h
    rcases h with rfl | rfl | h
    · rfl
    · rfl
    · exact prCells_oneCell r v h

theorem PairsAt.cells {w : World} {b off : Nat} {l : List (Int × Int)} (h : PairsAt w b off l) : ∀ j v, (prCells l)[j]? = some v → w.cell? ((⟨b, off, none⟩ : Addr).add j) = some v := by
  intro j v hj
  have hlt : j < (prCells l).length := (List.getElem?_eq_some_iff.1 hj).1
  rw [length_prCells] at hlt
  have hadd : (⟨b, off, none⟩ : Addr).add j = ⟨b, off + j, none⟩ := by unfold Addr.add; split <;> simp_all
  rw [hadd]
  obtain ⟨h0, h1⟩ := h (j / 2) (by omega)
  obtain ⟨g0, g1⟩ := prCells_get l (j / 2) (by omega)
  rcases (show j = j / 2 * 2 ∨ j = j / 2 * 2 + 1 by omega) with e | e
  · rw [← e] at g0 h0; rw [hj] at g0; rw [h0, g0]
  · rw [← e] at g1; rw [hj] at g1; rw [show off + j = off + j / 2 * 2 + 1 by omega, h1, g1]

/-- an owned row of pairs, read -/
theorem pairsAt_own {w : World} {B g n cap : Nat} {e : TypeId} {xs : List Value} {l : List (Int × Int)} (h : w.ownsRow B e 2 (.slice (some ⟨g, 0, none⟩) n cap) n xs) (hl : ∀ (j : Nat) (v : Value), (prCells l)[j]? = some v → xs[j]? = some v) : PairsAt w g 0 l := by
  intro i hi
  obtain ⟨g0, g1⟩ := prCells_get l i hi
  have k0 := hl _ _ g0
  have k1 := hl _ _ g1
  have l0 := (List.getElem?_eq_some_iff.1 k0).1
  have l1 := (List.getElem?_eq_some_iff.1 k1).1
  have hx := h.1
  rw [Nat.zero_add]
  exact ⟨by rw [h.cellAt _ (by omega)]; exact k0, by rw [h.cellAt _ (by omega)]; exact k1⟩

/-- the caller's own pair behind the end -/
def prw : Int × Int := (-999, -1)

theorem row_prw (l : List (Int × Int)) (rest : List Value) (hr : rest.length = 2) : ((prCells l ++ rest).set (l.length * 2) (.int .i64 (-999))).set (l.length * 2 + 1) (.int .i64 (-1)) = prCells (l ++ [prw]) := by
  have hl := length_prCells l
  match rest, hr with
  | [a, b], _ =>
    rw [List.set_append_right _ _ (by omega), hl, Nat.sub_self, List.set_append_right _ _ (by omega), hl, prCells_append]
    simp [prCells, prw]

theorem prefix_get {xs ys : List Value} {j : Nat} {v : Value} (h : xs[j]? = some v) : (xs ++ ys)[j]? = some v := by
  rw [List.getElem?_append_left (List.getElem?_eq_some_iff.1 h).1]; exact h

end Go.Proofs.Ytlbmcdoldnajoaa
