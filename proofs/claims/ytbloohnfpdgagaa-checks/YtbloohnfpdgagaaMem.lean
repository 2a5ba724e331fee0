/- Steps in memory: what a list of steps is in cells. -/
import Derived.Test.YtbloohnfpdgagaaSmall
namespace Go.Proofs.Ytbloohnfpdgagaa
open Go.RowKit

/-- from ⟨b, off⟩ on lie the steps 'l', four cells each -/
def StepsAt (w : World) (b off : Nat) (l : List St) : Prop := ∀ i, i < l.length →
  w.cell? ⟨b, off + i * 4, none⟩ = some (.int .i64 (l.getD i stz).op) ∧ w.cell? ⟨b, off + i * 4 + 1, none⟩ = some (.int .i64 (l.getD i stz).a) ∧
  w.cell? ⟨b, off + i * 4 + 2, none⟩ = some (.int .i64 (l.getD i stz).b) ∧ w.cell? ⟨b, off + i * 4 + 3, none⟩ = some (.int .i64 (l.getD i stz).c)

theorem StepsAt.below {w w' : World} {B b off : Nat} {l : List St} (h : StepsAt w b off l) (hb : Below B w w') (hlt : b < B) : StepsAt w' b off l := fun i hi =>
  ⟨(hb.cell (p := ⟨b, _, none⟩) hlt).trans (h i hi).1, (hb.cell (p := ⟨b, _, none⟩) hlt).trans (h i hi).2.1, (hb.cell (p := ⟨b, _, none⟩) hlt).trans (h i hi).2.2.1, (hb.cell (p := ⟨b, _, none⟩) hlt).trans (h i hi).2.2.2⟩

/-- the slice value v has the steps 'l' -/
def StepsV (w : World) (v : Value) (l : List St) : Prop := ∃ ao cap, v = .slice ao l.length cap ∧ (l = [] ∨ ∃ b off, ao = some ⟨b, off, none⟩ ∧ b < w.heap.size ∧ StepsAt w b off l)

theorem StepsV.below {w w' : World} {v : Value} {l : List St} (h : StepsV w v l) (hb : Below w.heap.size w w') : StepsV w' v l := by
  obtain ⟨ao, cap, rfl, h⟩ := h
  refine ⟨ao, cap, rfl, ?_⟩
  rcases h with h | ⟨b, off, h1, h2, h3⟩
  · exact Or.inl h
  · exact Or.inr ⟨b, off, h1, Nat.lt_of_lt_of_le h2 hb.size, h3.below hb h2⟩

/-- the errno of a list of steps: 0, if they are a job, else 1 -/
def checkN (l : List St) : Int := if jobB l then 0 else 1

theorem checkN_long {l : List St} (h : 32 < l.length) : checkN l = 1 := by
  have : ¬ l.length ≤ 32 := by omega
  simp [checkN, jobB, this]
theorem checkN_bad {l : List St} {k : Nat} (h : k < l.length) (hk : stB (l.getD k stz) k l.length = false) : checkN l = 1 := by
  have : jobB l = false := by
    simp only [jobB, Bool.and_eq_false_iff]
    right
    rw [List.all_eq_false]
    exact ⟨k, by simpa using h, by rw [hk]; simp⟩
  simp [checkN, this]
theorem checkN_good {l : List St} (h : l.length ≤ 32) (hk : ∀ k, k < l.length → stB (l.getD k stz) k l.length = true) : checkN l = 0 := by
  have : jobB l = true := by
    simp only [jobB, Bool.and_eq_true, decide_eq_true_eq, List.all_eq_true, List.mem_range]
    exact ⟨h, hk⟩
  simp [checkN, this]
theorem ret_int {k : IntKind} {a b : Int} (h : a = b) : Ending.returned (.int k a) = .returned (.int k b) := by rw [h]

end Go.Proofs.Ytbloohnfpdgagaa
