/- Steps in memory: what a list of steps is in cells. -/
import Derived.Test.YtlbmcdoldnajoaaSmall
namespace Go.Proofs.Ytlbmcdoldnajoaa
open Go.RowKit

/-- from ⟨b, off⟩ on lie the steps 'l', four cells each -/
def StepsAt (w : World) (b off : Nat) (l : List St) : Prop := ∀ i, i < l.length →
  w.cell? ⟨b, off + i * 4, none⟩ = some (.int .i64 (l.getD i stz).op) ∧ w.cell? ⟨b, off + i * 4 + 1, none⟩ = some (.int .i64 (l.getD i stz).a) ∧
  w.cell? ⟨b, off + i * 4 + 2, none⟩ = some (.int .i64 (l.getD i stz).b) ∧ w.cell? ⟨b, off + i * 4 + 3, none⟩ = some (.int .i64 (l.getD i stz).c)

theorem StepsAt.below {w w' : World} {B b off : Nat} {l : List St} (h : StepsAt w b off l) (hb : Below B w w') (hlt : b < B) : StepsAt w' b off l := fun i hi =>
  ⟨(hb.cell (p := ⟨b, _, none⟩) hlt).trans (h i hi).1, (hb.cell (p := ⟨b, _, none⟩) hlt).trans (h i hi).2.1, (hb.cell (p := ⟨b, _, none⟩) hlt).trans (h i hi).2.2.1, (hb.cell (p := ⟨b, _, none⟩) hlt).trans (h i hi).2.2.2⟩

/-- the slice value v has the steps 'l' -/
def StepsV (w : World) (v : Value) (l : List St) : Prop := ∃ ao cap, v = .slice ao l.length cap ∧ (l = [] ∨ ∃ b off, ao = some ⟨b, off, none⟩ ∧ b < w.heap.size ∧ StepsAt w b off l)

theorem StepsV.below {w w' : World} {v : Value} {l : List St} (h : StepsV w v l) (hb : Below w.heap.size w w') : StepsV w' v l := by
  obtain ⟨ao, cap, rfl, h⟩ := h
  refine ⟨ao, cap, rfl, ?_⟩
  rcases h with h | ⟨b, off, h1, h2, h3⟩
  · exact Or.inl h
  · exact Or.inr ⟨b, off, h1, Nat.lt_of_lt_of_le h2 hb.size, h3.below hb h2⟩

theorem ret_int {k : IntKind} {a b : Int} (h : a = b) : Ending.returned (.int k a) = .returned (.int k b) := by rw [h]

end Go.Proofs.Ytlbmcdoldnajoaa
