/- pivotkeep's 'Known': the document's own examples; what is known of them, plainly. -/
import Derived.Test.YtlbmcdoldnajoaaPick
namespace Go.Proofs.Ytlbmcdoldnajoaa
open Go.RowKit

/-- all that 'Known' asks, ahead of the Run -/
structure KnownAt (w : World) (sv mv tv wv : Value) (l : List St) (ml : List (Int × Int)) (told : List Int) (want : List (Int × Int)) (fuel st : Int) (X : World) : Prop where
  hs : StepsV X sv l
  hm : PairsV X X.heap.size mv ml
  ht : IntsV X tv told
  hw : PairsV X X.heap.size wv want
  hb : Below w.heap.size w X
  e0 : runErr l ml fuel = 0
  e1 : runSt l ml fuel = st
  e2 : runTold l ml fuel = told
  e3 : runMap l ml fuel = want

theorem stepsV_blk {X : World} {b : Nat} {l : List St} {t : TypeId} {fr : Nat × Nat} (h : X.heap[b]? = some (.cells (stCells l).toArray t fr)) (n : Nat) (hn : n = l.length) : StepsV X (.slice (some ⟨b, 0, none⟩) n n) l := by
  subst hn
  exact ⟨_, _, rfl, Or.inr ⟨b, 0, rfl, blk_lt h, stepsAt_of_row (rest := []) (by simpa using h)⟩⟩
theorem pairsV_blk {X : World} {b : Nat} {l : List (Int × Int)} {t : TypeId} {fr : Nat × Nat} (h : X.heap[b]? = some (.cells (prCells l).toArray t fr)) (n : Nat) (hn : n = l.length) (hm : n ≤ 1000) : PairsV X X.heap.size (.slice (some ⟨b, 0, none⟩) n n) l := by
  subst hn
  refine ⟨_, _, rfl, by omega, Or.inr ⟨b, 0, rfl, blk_lt h, fun i hi => ?_⟩⟩
  obtain ⟨g0, g1⟩ := prCells_get l i hi
  rw [Nat.zero_add, blk_cell h, blk_cell h]
  simpa using ⟨g0, g1⟩
theorem intsV_blk {X : World} {b : Nat} {l : List Int} {t : TypeId} {fr : Nat × Nat} (h : X.heap[b]? = some (.cells (l.map (Value.int .i64)).toArray t fr)) (n : Nat) (hn : n = l.length) (hm : n ≤ 1000) : IntsV X (.slice (some ⟨b, 0, none⟩) n n) l := by
  subst hn
  refine ⟨_, _, rfl, by omega, Or.inr ⟨b, 0, rfl, blk_lt h, fun i hi => ?_⟩⟩
  rw [Nat.zero_add, blk_cell h]
  simp [List.getD, hi]
theorem intsV_nil (X : World) : IntsV X (.slice none 0 0) [] := ⟨none, 0, rfl, Nat.zero_le _, Or.inl rfl⟩
theorem pairsV_nil (X : World) (B : Nat) : PairsV X B (.slice none 0 0) [] := ⟨none, 0, rfl, Nat.zero_le _, Or.inl rfl⟩

theorem new_old {w : World} {o : Obj} {b : Nat} {x : Obj} (h : w.heap[b]? = some x) : (w.alloc o).heap[b]? = some x := (Below.heap_alloc w o b (blk_lt h)).trans h
theorem new_1 (w : World) (a o : Obj) : ((w.alloc a).alloc o).heap[w.heap.size + 1]? = some o := by have := heap_alloc_new (w.alloc a) o; rwa [World.size_alloc] at this
theorem new_2 (w : World) (a b o : Obj) : (((w.alloc a).alloc b).alloc o).heap[w.heap.size + 1 + 1]? = some o := by have := new_1 (w.alloc a) b o; rwa [World.size_alloc] at this
theorem new_3 (w : World) (a b c o : Obj) : ((((w.alloc a).alloc b).alloc c).alloc o).heap[w.heap.size + 1 + 1 + 1]? = some o := by have := new_2 (w.alloc a) b c o; rwa [World.size_alloc] at this

def kL0 : List St := [⟨1, 0, 5, 0⟩, ⟨3, 3, 0, 0⟩, ⟨2, 1, 3, 0⟩, ⟨11, 1, 0, 0⟩]
def kM0 : List (Int × Int) := []
def kT0 : List Int := [5]
def kW0 : List (Int × Int) := [(3, 5)]
theorem k0_e0 : runErr kL0 kM0 4 = 0 := by decide
theorem k0_e1 : runSt kL0 kM0 4 = 3 := by decide
theorem k0_e2 : runTold kL0 kM0 4 = kT0 := by decide
theorem k0_e3 : runMap kL0 kM0 4 = kW0 := by decide
def kL1 : List St := [⟨1, 0, 5, 0⟩, ⟨3, 3, 0, 0⟩, ⟨2, 1, 3, 0⟩, ⟨11, 1, 0, 0⟩]
def kM1 : List (Int × Int) := []
def kT1 : List Int := []
def kW1 : List (Int × Int) := []
theorem k1_e0 : runErr kL1 kM1 3 = 0 := by decide
theorem k1_e1 : runSt kL1 kM1 3 = 5 := by decide
theorem k1_e2 : runTold kL1 kM1 3 = kT1 := by decide
theorem k1_e3 : runMap kL1 kM1 3 = kW1 := by decide
def kL2 : List St := [⟨5, 0, 0, 15⟩, ⟨6, 1, 0, 3⟩, ⟨11, 0, 0, 0⟩, ⟨11, 1, 0, 0⟩, ⟨4, 2, 0, 0⟩, ⟨12, 0, 0, 0⟩]
def kM2 : List (Int × Int) := [(2, 7), (5, 9)]
def kT2 : List Int := [16, 1]
def kW2 : List (Int × Int) := [(2, 7), (5, 9)]
theorem k2_e0 : runErr kL2 kM2 20 = 0 := by decide
theorem k2_e1 : runSt kL2 kM2 20 = 4 := by decide
theorem k2_e2 : runTold kL2 kM2 20 = kT2 := by decide
theorem k2_e3 : runMap kL2 kM2 20 = kW2 := by decide
def kL3 : List St := [⟨1, 0, 3, 0⟩, ⟨1, 1, 1, 0⟩, ⟨8, 0, 1, 0⟩, ⟨11, 0, 0, 0⟩, ⟨10, 0, 2, 0⟩]
def kM3 : List (Int × Int) := []
def kT3 : List Int := [2, 1, 0]
def kW3 : List (Int × Int) := []
theorem k3_e0 : runErr kL3 kM3 20 = 0 := by decide
theorem k3_e1 : runSt kL3 kM3 20 = 3 := by decide
theorem k3_e2 : runTold kL3 kM3 20 = kT3 := by decide
theorem k3_e3 : runMap kL3 kM3 20 = kW3 := by decide
def kL4 : List St := [⟨1, 0, 999, 0⟩, ⟨7, 0, 0, 0⟩, ⟨7, 0, 0, 0⟩, ⟨7, 0, 0, 0⟩, ⟨7, 0, 0, 0⟩]
def kM4 : List (Int × Int) := []
def kT4 : List Int := []
def kW4 : List (Int × Int) := []
theorem k4_e0 : runErr kL4 kM4 20 = 0 := by decide
theorem k4_e1 : runSt kL4 kM4 20 = 5 := by decide
theorem k4_e2 : runTold kL4 kM4 20 = kT4 := by decide
theorem k4_e3 : runMap kL4 kM4 20 = kW4 := by decide

end Go.Proofs.Ytlbmcdoldnajoaa
