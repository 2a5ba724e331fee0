/- What the document says of a step and of a job, plainly: nothing of the program here. -/
import Derived.Below
namespace Go.Proofs.Ytlbmcdoldnajoaa
open Go.RowKit

structure St where
  op : Int
  a : Int
  b : Int
  c : Int

def stz : St := ⟨0, 0, 0, 0⟩

def regB (n : Int) : Bool := decide (0 ≤ n ∧ n ≤ 3)
def keyB (n : Int) : Bool := decide (0 ≤ n ∧ n ≤ 15)
def inB (n lo hi : Int) : Bool := decide (lo ≤ n ∧ n ≤ hi)

/-- may the step stand where 'ahead' steps come before it and 'behind' after it -/
def stepB (op a b c ahead behind : Int) : Bool :=
  if op = 1 then regB a && inB b 0 999 && decide (c = 0)
  else if op = 2 then regB a && keyB b && decide (c = 0)
  else if op = 3 then keyB a && regB b && decide (c = 0)
  else if op = 4 then keyB a && decide (b = 0) && decide (c = 0)
  else if op = 5 ∨ op = 6 then regB a && keyB b && keyB c && decide (b ≤ c)
  else if op = 7 ∨ op = 8 then regB a && regB b && decide (c = 0)
  else if op = 9 then regB a && inB b 1 behind && decide (c = 0)
  else if op = 10 then regB a && inB b 1 ahead && decide (c = 0)
  else if op = 11 then regB a && decide (b = 0) && decide (c = 0)
  else if op = 12 then decide (a = 0) && decide (b = 0) && decide (c = 0)
  else false

def stB (s : St) (i n : Nat) : Bool := stepB s.op s.a s.b s.c i ((n : Int) - 1 - i)

def jobB (l : List St) : Bool := decide (l.length ≤ 32) && (List.range l.length).all fun i => stB (l.getD i stz) i l.length

/-- the errno of a list of steps: 0, if they are a job, else 1 -/
def checkN (l : List St) : Int := if jobB l then 0 else 1

theorem checkN_long {l : List St} (h : 32 < l.length) : checkN l = 1 := by
  have : ¬ l.length ≤ 32 := by omega
  simp [checkN, jobB, this]
theorem checkN_bad {l : List St} {k : Nat} (h : k < l.length) (hk : stB (l.getD k stz) k l.length = false) : checkN l = 1 := by
  have : jobB l = false := by
    simp only [jobB, Bool.and_eq_false_iff]
    right
    rw [List.all_eq_false]
    exact ⟨k, by simpa using h, by rw [hk]; simp⟩
  simp [checkN, this]
theorem checkN_good {l : List St} (h : l.length ≤ 32) (hk : ∀ k, k < l.length → stB (l.getD k stz) k l.length = true) : checkN l = 0 := by
  have : jobB l = true := by
    simp only [jobB, Bool.and_eq_true, decide_eq_true_eq, List.all_eq_true, List.mem_range]
    exact ⟨h, hk⟩
  simp [checkN, this]

end Go.Proofs.Ytlbmcdoldnajoaa
