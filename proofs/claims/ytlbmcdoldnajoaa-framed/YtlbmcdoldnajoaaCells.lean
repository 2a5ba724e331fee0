/- Steps as rows of cells: plain facts. -/
import Derived.Test.YtlbmcdoldnajoaaMem
import Derived.Test.YtlbmcdoldnajoaaWide
namespace Go.Proofs.Ytlbmcdoldnajoaa
open Go.RowKit

def stCells : List St → List Value
  | [] => []
  | s :: r => .int .i64 s.op :: .int .i64 s.a :: .int .i64 s.b :: .int .i64 s.c :: stCells r

theorem length_stCells : ∀ l : List St, (stCells l).length = l.length * 4
  | [] => rfl
  | s :: r => by simp [stCells, length_stCells r]; omega

theorem stCells_append : ∀ l m : List St, stCells (l ++ m) = stCells l ++ stCells m
  | [], m => rfl
  | s :: r, m => by simp [stCells, stCells_append r m]

theorem stCells_oneCell : ∀ (l : List St), ∀ v ∈ stCells l, v.oneCell' = true
  | [], v, h => by cases h
  | s :: r, v, h => by
    simp only [stCells, List.mem_cons] at h
    rcases h with rfl | rfl | rfl | rfl | h
    · rfl
    · rfl
    · rfl
    · rfl
    · exact stCells_oneCell r v h

theorem stCells_get : ∀ (l : List St) (i : Nat), i < l.length →
    (stCells l)[i * 4]? = some (.int .i64 (l.getD i stz).op) ∧ (stCells l)[i * 4 + 1]? = some (.int .i64 (l.getD i stz).a) ∧ (stCells l)[i * 4 + 2]? = some (.int .i64 (l.getD i stz).b) ∧ (stCells l)[i * 4 + 3]? = some (.int .i64 (l.getD i stz).c)
  | [], i, h => by simp at h
  | s :: r, 0, _ => by simp [stCells]
  | s :: r, i + 1, h => by
    have ih := stCells_get r i (by simpa using h)
    have e0 : (i + 1) * 4 = i * 4 + 4 := by omega
    simp only [stCells, e0, List.getElem?_cons_succ, List.getD_cons_succ]
    exact ih

theorem StepsAt.cells {w : World} {b off : Nat} {l : List St} (h : StepsAt w b off l) : ∀ j v, (stCells l)[j]? = some v → w.cell? ((⟨b, off, none⟩ : Addr).add j) = some v := by
  intro j v hj
  have hlt : j < (stCells l).length := (List.getElem?_eq_some_iff.1 hj).1
  rw [length_stCells] at hlt
  have hadd : (⟨b, off, none⟩ : Addr).add j = ⟨b, off + j, none⟩ := by unfold Addr.add; split <;> simp_all
  rw [hadd]
  obtain ⟨h0, h1, h2, h3⟩ := h (j / 4) (by omega)
  obtain ⟨g0, g1, g2, g3⟩ := stCells_get l (j / 4) (by omega)
  rcases (show j = j / 4 * 4 ∨ j = j / 4 * 4 + 1 ∨ j = j / 4 * 4 + 2 ∨ j = j / 4 * 4 + 3 by omega) with e | e | e | e
  · rw [← e] at g0 h0; rw [hj] at g0; rw [h0, g0]
  · rw [← e] at g1; rw [hj] at g1; rw [show off + j = off + j / 4 * 4 + 1 by omega, h1, g1]
  · rw [← e] at g2; rw [hj] at g2; rw [show off + j = off + j / 4 * 4 + 2 by omega, h2, g2]
  · rw [← e] at g3; rw [hj] at g3; rw [show off + j = off + j / 4 * 4 + 3 by omega, h3, g3]

theorem stepsAt_of_cells {w : World} {b off : Nat} {l : List St} (h : ∀ j v, (stCells l)[j]? = some v → w.cell? ⟨b, off + j, none⟩ = some v) : StepsAt w b off l := by
  intro i hi
  obtain ⟨g0, g1, g2, g3⟩ := stCells_get l i hi
  exact ⟨h _ _ g0, by simpa [Nat.add_assoc] using h _ _ g1, by simpa [Nat.add_assoc] using h _ _ g2, by simpa [Nat.add_assoc] using h _ _ g3⟩

/-- a row whose first cells are those of the steps -/
theorem stepsAt_of_row {w : World} {g : Nat} {l : List St} {rest : List Value} {t : TypeId} {fr : Nat × Nat} (h : w.heap[g]? = some (.cells (stCells l ++ rest).toArray t fr)) : StepsAt w g 0 l := by
  refine stepsAt_of_cells fun j v hj => ?_
  have hlt : j < (stCells l).length := (List.getElem?_eq_some_iff.1 hj).1
  simp [World.cell?, h, List.getElem?_append_left hlt, hj]

theorem stepsAt_nil (w : World) (b off : Nat) : StepsAt w b off [] := fun i hi => by simp at hi

/-- a step stored cell by cell, as the walk leaves it -/
def set4 (w : World) (b o : Nat) (s : St) : World :=
  (((w.setCell ⟨b, o, none⟩ (.int .i64 s.op)).setCell ⟨b, o + 1, none⟩ (.int .i64 s.a)).setCell ⟨b, o + 2, none⟩ (.int .i64 s.b)).setCell ⟨b, o + 3, none⟩ (.int .i64 s.c)

theorem set4_other {w : World} {b o b' o' : Nat} {s : St} (h : b' = b → o' < o ∨ o + 4 ≤ o') : (set4 w b o s).cell? ⟨b', o', none⟩ = w.cell? ⟨b', o', none⟩ := by
  have ne : ∀ j, j < 4 → (⟨b, o + j, none⟩ : Addr) ≠ ⟨b', o', none⟩ := fun j hj e => by
    injection e with e1 e2
    have := h e1.symm
    omega
  unfold set4
  rw [World.cell?_setCell_other _ _ _ _ (ne 3 (by omega)), World.cell?_setCell_other _ _ _ _ (ne 2 (by omega)), World.cell?_setCell_other _ _ _ _ (ne 1 (by omega)), World.cell?_setCell_other _ _ _ _ (by simpa using ne 0 (by omega))]

theorem set4_same {w : World} {b o : Nat} {s : St} {x0 x1 x2 x3 : Value} (h0 : w.cell? ⟨b, o, none⟩ = some x0) (h1 : w.cell? ⟨b, o + 1, none⟩ = some x1) (h2 : w.cell? ⟨b, o + 2, none⟩ = some x2) (h3 : w.cell? ⟨b, o + 3, none⟩ = some x3) :
    (set4 w b o s).cell? ⟨b, o, none⟩ = some (.int .i64 s.op) ∧ (set4 w b o s).cell? ⟨b, o + 1, none⟩ = some (.int .i64 s.a) ∧ (set4 w b o s).cell? ⟨b, o + 2, none⟩ = some (.int .i64 s.b) ∧ (set4 w b o s).cell? ⟨b, o + 3, none⟩ = some (.int .i64 s.c) := by
  have ne : ∀ i j, i ≠ j → (⟨b, o + i, none⟩ : Addr) ≠ ⟨b, o + j, none⟩ := fun i j hij e => by
    injection e with _ e2
    omega
  have n01 := ne 0 1 (by omega); have n02 := ne 0 2 (by omega); have n03 := ne 0 3 (by omega); have n12 := ne 1 2 (by omega); have n13 := ne 1 3 (by omega); have n23 := ne 2 3 (by omega)
  simp only [Nat.add_zero] at n01 n02 n03
  unfold set4
  refine ⟨?_, ?_, ?_, ?_⟩
  · rw [World.cell?_setCell_other _ _ _ _ n03.symm, World.cell?_setCell_other _ _ _ _ n02.symm, World.cell?_setCell_other _ _ _ _ n01.symm, World.cell?_setCell_same _ _ _ h0]
  · rw [World.cell?_setCell_other _ _ _ _ n13.symm, World.cell?_setCell_other _ _ _ _ n12.symm]
    exact World.cell?_setCell_same _ _ _ ((World.cell?_setCell_other _ _ _ _ n01).trans h1)
  · rw [World.cell?_setCell_other _ _ _ _ n23.symm]
    exact World.cell?_setCell_same _ _ _ ((World.cell?_setCell_other _ _ _ _ n12).trans ((World.cell?_setCell_other _ _ _ _ n02).trans h2))
  · exact World.cell?_setCell_same _ _ _ ((World.cell?_setCell_other _ _ _ _ n23).trans ((World.cell?_setCell_other _ _ _ _ n13).trans ((World.cell?_setCell_other _ _ _ _ n03).trans h3)))

/-- a step laid behind the steps that are there -/
theorem StepsAt.snoc {w : World} {b off : Nat} {l : List St} {s : St} (h : StepsAt w b off l) {x0 x1 x2 x3 : Value} (h0 : w.cell? ⟨b, off + l.length * 4, none⟩ = some x0) (h1 : w.cell? ⟨b, off + l.length * 4 + 1, none⟩ = some x1)
    (h2 : w.cell? ⟨b, off + l.length * 4 + 2, none⟩ = some x2) (h3 : w.cell? ⟨b, off + l.length * 4 + 3, none⟩ = some x3) : StepsAt (set4 w b (off + l.length * 4) s) b off (l ++ [s]) := by
  intro i hi
  simp only [List.length_append, List.length_cons, List.length_nil] at hi
  by_cases hil : i < l.length
  · have e : (l ++ [s]).getD i stz = l.getD i stz := by simp [List.getD, List.getElem?_append_left hil]
    rw [e, set4_other (by omega), set4_other (by omega), set4_other (by omega), set4_other (by omega)]
    exact h i hil
  · have hi' : i = l.length := by omega
    subst hi'
    have e : (l ++ [s]).getD l.length stz = s := by simp [List.getD]
    rw [e]
    exact set4_same h0 h1 h2 h3

/-- a step laid over one that is there -/
theorem StepsAt.set {w : World} {b off : Nat} {l : List St} {s : St} (h : StepsAt w b off l) {k : Nat} (hk : k < l.length) : StepsAt (set4 w b (off + k * 4) s) b off (l.set k s) := by
  intro i hi
  rw [List.length_set] at hi
  obtain ⟨h0, h1, h2, h3⟩ := h k hk
  by_cases hik : i = k
  · subst hik
    have e : (l.set i s).getD i stz = s := by simp [List.getD, hi]
    rw [e]
    exact set4_same h0 h1 h2 h3
  · have e : (l.set k s).getD i stz = l.getD i stz := by simp [List.getD, List.getElem?_set_ne (Ne.symm hik)]
    rw [e, set4_other (by omega), set4_other (by omega), set4_other (by omega), set4_other (by omega)]
    exact h i hi

theorem below_set4 {B b o : Nat} {w0 w : World} {s : St} (h : Below B w0 w) (hb : B ≤ b) : Below B w0 (set4 w b o s) :=
  (((h.setCell (p := ⟨b, _, none⟩) hb _).setCell (p := ⟨b, _, none⟩) hb _).setCell (p := ⟨b, _, none⟩) hb _).setCell (p := ⟨b, _, none⟩) hb _

theorem size_set4 (w : World) (b o : Nat) (s : St) : (set4 w b o s).heap.size = w.heap.size := by simp [set4]

theorem StepsAt.alloc {w : World} {b off : Nat} {l : List St} (h : StepsAt w b off l) (hb : b < w.heap.size) (o : Obj) : StepsAt (w.alloc o) b off l :=
  h.below ((Below.refl _ _).alloc (Nat.le_refl _) o) hb

end Go.Proofs.Ytlbmcdoldnajoaa
