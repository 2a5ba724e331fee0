/- What a run of a job does, step by step: plain functions, nothing of the program. -/
import Derived.Test.YtlbmcdoldnajoaaPlain
namespace Go.Proofs.Ytlbmcdoldnajoaa

/-- the value of a key in a list of pairs: -1, if it has none -/
def vIn : List (Int × Int) → Int → Int
  | [], _ => -1
  | p :: r, k => if p.1 = k then p.2 else vIn r k

/-- what was put last for a key -/
def lastP (l : List (Int × Int)) (k : Int) : Option Int := l.foldl (fun acc p => if p.1 = k then some p.2 else acc) none

theorem lastP_nil (k : Int) : lastP [] k = none := rfl
theorem lastP_snoc (l : List (Int × Int)) (p : Int × Int) (k : Int) : lastP (l ++ [p]) k = if p.1 = k then some p.2 else lastP l k := by simp [lastP]

/-- a run behind some steps -/
structure Mo where
  pc : Nat
  done : Nat
  regs : List Int
  puts : Int → Option Int
  read : List Bool
  told : List Int
  fin : Int

def mo0 : Mo := ⟨0, 0, [0, 0, 0, 0], fun _ => none, List.replicate 16 false, [], 0⟩

/-- the value of a key as the run sees it -/
def see (m : Int → Int) (puts : Int → Option Int) (k : Int) : Int := (puts k).getD (m k)
/-- the keys read, behind one more -/
def mark (puts : Int → Option Int) (rd : List Bool) (k : Int) : List Bool := if (puts k).isSome then rd else rd.set k.toNat true

def sumK (f : Int → Int) (b : Int) : Nat → Int
  | 0 => 0
  | n + 1 => sumK f b n + if 0 ≤ f (b + n) then f (b + n) else 0
def cntK (f : Int → Int) (b : Int) : Nat → Int
  | 0 => 0
  | n + 1 => cntK f b n + if 0 ≤ f (b + n) then 1 else 0
def markK (puts : Int → Option Int) (rd : List Bool) (b : Int) : Nat → List Bool
  | 0 => rd
  | n + 1 => mark puts (markK puts rd b n) (b + n)

def reg (x : Mo) (a : Int) : Int := x.regs.getD a.toNat 0
def setReg (x : Mo) (a v : Int) : Mo := { x with regs := x.regs.set a.toNat v }
/-- a register becomes a number, or FAULT -/
def bec (x : Mo) (a v : Int) : Mo := if v < 0 ∨ 9999 < v then { x with fin := 5 } else setReg x a v
def putAt (x : Mo) (k v : Int) : Mo := { x with puts := fun j => if k = j then some v else x.puts j }

/-- one step -/
def stp (s : St) (m : Int → Int) (x0 : Mo) : Mo :=
  let x : Mo := { x0 with done := x0.done + 1, pc := x0.pc + 1 }
  if s.op = 1 then setReg x s.a s.b
  else if s.op = 2 then setReg { x with read := mark x.puts x.read s.b } s.a (if see m x.puts s.b < 0 then 0 else see m x.puts s.b)
  else if s.op = 3 then putAt x s.a (reg x s.b)
  else if s.op = 4 then putAt x s.a (-1)
  else if s.op = 5 then bec { x with read := markK x.puts x.read s.b (s.c - s.b + 1).toNat } s.a (sumK (see m x.puts) s.b (s.c - s.b + 1).toNat)
  else if s.op = 6 then bec { x with read := markK x.puts x.read s.b (s.c - s.b + 1).toNat } s.a (cntK (see m x.puts) s.b (s.c - s.b + 1).toNat)
  else if s.op = 7 then bec x s.a (reg x s.a + reg x s.b)
  else if s.op = 8 then bec x s.a (reg x s.a - reg x s.b)
  else if s.op = 9 then (if reg x s.a = 0 then { x with pc := x.pc + s.b.toNat } else x)
  else if s.op = 10 then (if 0 < reg x s.a then { x with pc := x.pc - s.b.toNat - 1 } else x)
  else if s.op = 11 then { x with told := x.told ++ [reg x s.a] }
  else if s.op = 12 then { x with fin := 4 }
  else x

/-- a run, at most n steps more -/
def play (l : List St) (m : Int → Int) : Nat → Mo → Mo
  | 0, x => x
  | n + 1, x => if x.fin = 0 ∧ x.pc < l.length then play l m n (stp (l.getD x.pc stz) m x) else x

/-- the state with which a run has ended that has no fuel left -/
def endState (l : List St) (x : Mo) : Int := if x.fin = 0 then (if l.length ≤ x.pc then 3 else 5) else x.fin

/-- a map as a list of pairs -/
def listOf (f : Int → Int) : List (Int × Int) := (List.range 16).filterMap fun k : Nat => if 0 ≤ f k then some ((k : Int), f k) else none

/-- the map behind a run -/
def mapAfter (l : List St) (m : Int → Int) (x : Mo) : Int → Int := if endState l x = 3 then see m x.puts else m

/-- is a list a map? -/
def mapB (l : List (Int × Int)) : Bool := (List.range l.length).all fun i => keyB (l.getD i (0, 0)).1 && decide (0 ≤ (l.getD i (0, 0)).2 ∧ (l.getD i (0, 0)).2 ≤ 9999) && (decide (i = 0) || decide ((l.getD (i - 1) (0, 0)).1 < (l.getD i (0, 0)).1))

/-- the errno of Run -/
def runErr (l : List St) (m : List (Int × Int)) (fuel : Int) : Int :=
  if checkN l ≠ 0 then 1 else if mapB m = false then 2 else if fuel < 1 ∨ 200 < fuel then 3 else 0

end Go.Proofs.Ytlbmcdoldnajoaa
