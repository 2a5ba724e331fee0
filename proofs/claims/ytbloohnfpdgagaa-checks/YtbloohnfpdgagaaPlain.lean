/- What the document says of a step and of a job, plainly: nothing of the program here. -/
import Derived.Below
namespace Go.Proofs.Ytbloohnfpdgagaa
open Go.RowKit

structure St where
  op : Int
  a : Int
  b : Int
  c : Int

def stz : St := ⟨0, 0, 0, 0⟩

def regB (n : Int) : Bool := decide (0 ≤ n ∧ n ≤ 3)
def keyB (n : Int) : Bool := decide (0 ≤ n ∧ n ≤ 15)
def inB (n lo hi : Int) : Bool := decide (lo ≤ n ∧ n ≤ hi)

/-- may the step stand where 'ahead' steps come before it and 'behind' after it -/
def stepB (op a b c ahead behind : Int) : Bool :=
  if op = 1 then regB a && inB b 0 999 && decide (c = 0)
  else if op = 2 then regB a && keyB b && decide (c = 0)
  else if op = 3 then keyB a && regB b && decide (c = 0)
  else if op = 4 then keyB a && decide (b = 0) && decide (c = 0)
  else if op = 5 ∨ op = 6 then regB a && keyB b && keyB c && decide (b ≤ c)
  else if op = 7 ∨ op = 8 then regB a && regB b && decide (c = 0)
  else if op = 9 then regB a && inB b 1 behind && decide (c = 0)
  else if op = 10 then regB a && inB b 1 ahead && decide (c = 0)
  else if op = 11 then regB a && decide (b = 0) && decide (c = 0)
  else if op = 12 then decide (a = 0) && decide (b = 0) && decide (c = 0)
  else false

def stB (s : St) (i n : Nat) : Bool := stepB s.op s.a s.b s.c i ((n : Int) - 1 - i)

def jobB (l : List St) : Bool := decide (l.length ≤ 32) && (List.range l.length).all fun i => stB (l.getD i stz) i l.length

end Go.Proofs.Ytbloohnfpdgagaa
