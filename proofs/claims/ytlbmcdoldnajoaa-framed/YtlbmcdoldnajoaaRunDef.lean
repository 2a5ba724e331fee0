/- What a Run answers, plainly; and in memory. -/
import Derived.Test.YtlbmcdoldnajoaaMom
import Derived.Test.YtlbmcdoldnajoaaMapOK
namespace Go.Proofs.Ytlbmcdoldnajoaa
open Go.RowKit

def runMo (l : List St) (ml : List (Int × Int)) (fuel : Int) : Mo := play l (vIn ml) fuel.toNat mo0
def runSt (l : List St) (ml : List (Int × Int)) (fuel : Int) : Int := if runErr l ml fuel = 0 then endState l (runMo l ml fuel) else 0
def runTold (l : List St) (ml : List (Int × Int)) (fuel : Int) : List Int := if runErr l ml fuel = 0 then (runMo l ml fuel).told else []
def runTries (l : List St) (ml : List (Int × Int)) (fuel : Int) : Int := if runErr l ml fuel = 0 then 1 else 0
def runMap (l : List St) (ml : List (Int × Int)) (fuel : Int) : List (Int × Int) := if runErr l ml fuel = 0 then listOf (mapAfter l (vIn ml) (runMo l ml fuel)) else []

/-- what a Run hands back: lists of its own -/
def Ran (l : List St) (ml : List (Int × Int)) (fuel : Int) (w : World) (e : Ending) (w' : World) : Prop := ∃ tv av,
  e = .returned (.tuple #[.agg #[.int .i64 (runSt l ml fuel), tv, .int .i64 (runTries l ml fuel)], av, .int .i64 (runErr l ml fuel)]) ∧
  w'.ownsRow w.heap.size 3 1 tv (runTold l ml fuel).length ((runTold l ml fuel).map (Value.int .i64)) ∧
  w'.ownsRow w.heap.size 42 2 av (runMap l ml fuel).length (prCells (runMap l ml fuel)) ∧ Below w.heap.size w w'

theorem ran_err {l : List St} {ml : List (Int × Int)} {fuel : Int} {w w' : World} {n : Int} (h : runErr l ml fuel = n) (hn : n ≠ 0) (hb : Below w.heap.size w w') :
    Ran l ml fuel w (.returned (.tuple #[.agg #[.int .i64 0, .slice none 0 0, .int .i64 0], .slice none 0 0, .int .i64 n])) w' := by
  have h0 : ¬ runErr l ml fuel = 0 := by rw [h]; exact hn
  refine ⟨.slice none 0 0, .slice none 0 0, ?_, ?_, ?_, hb⟩
  · simp [runSt, runTries, h, hn]
  · simp only [runTold, if_neg h0]; exact World.ownsRow_nil _ _ _ _
  · simp only [runMap, if_neg h0]; exact World.ownsRow_nil _ _ _ _

theorem vIn_bd : ∀ (l : List (Int × Int)) (k : Int), (∀ p ∈ l, p.2 ≤ 9999) → vIn l k ≤ 9999
  | [], _, _ => by simp [vIn]
  | p :: r, k, h => by
    unfold vIn
    split
    · exact h p (by simp)
    · exact vIn_bd r k (fun q hq => h q (by simp [hq]))

theorem vIn_le {l : List (Int × Int)} (h : mapB l = true) (k : Int) : vIn l k ≤ 9999 := by
  refine vIn_bd l k (fun p hp => ?_)
  obtain ⟨i, hi, rfl⟩ := List.getElem_of_mem hp
  rw [mapB_eq, List.all_eq_true] at h
  have := h _ (List.mem_range.2 hi)
  simp [goodP, hi] at this
  exact this.1.2.2

end Go.Proofs.Ytlbmcdoldnajoaa
