/- A desk in plain terms: what its calls do. Nothing of the program. -/
import Derived.Test.YtlpdpmijmceboaaOk
namespace Go.Proofs.Ytlpdpmijmceboaa

structure JobM where
  steps : List St
  state : Int
  told : List Int
  tries : Nat
  failed : Nat
  urgent : Bool
def jobM0 : JobM := ⟨[], 0, [], 0, 0, false⟩

/-- a worker's attempt: of which job (0: none), its beginning, how many steps it has done -/
structure AttM where
  ticket : Nat
  beg : Nat
  done : Nat
def att0 : AttM := ⟨0, 0, 0⟩

/-- an attempt that was found good -/
structure GoodM where
  ticket : Nat
  beg : Nat
  read : List Bool
  puts : Int → Option Int
def good0 : GoodM := ⟨0, 0, [], fun _ => none⟩

structure ConfM where
  workers : Nat
  queue : Nat
  fuel : Nat
  patience : Nat

structure DeskM where
  c : ConfM
  jobs : List JobM
  queue : List Nat
  urgent : List Nat
  workers : List AttM
  goods : List GoodM

/-- may a configuration be? -/
def confB (w q f p : Int) : Bool := decide (1 ≤ w ∧ w ≤ 4) && decide (1 ≤ q ∧ q ≤ 8) && decide (1 ≤ f ∧ f ≤ 200) && decide (0 ≤ p ∧ p ≤ 5)
def desk0 (c : ConfM) : DeskM := ⟨c, [], [], [], List.replicate c.workers att0, []⟩

/-- the map behind attempts that were found good -/
def mapF (gs : List GoodM) : Int → Int := gs.foldl (fun m g => see m g.puts) (fun _ => -1)
theorem mapF_nil : mapF [] = fun _ => -1 := rfl
theorem mapF_snoc (gs : List GoodM) (g : GoodM) : mapF (gs ++ [g]) = see (mapF gs) g.puts := by simp [mapF]

namespace DeskM
def job (d : DeskM) (n : Nat) : JobM := d.jobs.getD (n - 1) jobM0
def setJob (d : DeskM) (n : Nat) (j : JobM) : DeskM := { d with jobs := d.jobs.set (n - 1) j }
def waiting (d : DeskM) : Nat := (d.jobs.filter fun j => decide (j.state = 1)).length
def good (d : DeskM) (n : Nat) : GoodM := d.goods.getD (n - 1) good0

/-- P6 -/
def submit (d : DeskM) (l : List St) : DeskM × Nat × Int :=
  if jobB l = false then (d, 0, 1)
  else if d.c.queue ≤ d.waiting then (d, 0, 5)
  else ({ d with jobs := d.jobs ++ [⟨l, 1, [], 0, 0, false⟩], queue := d.queue ++ [d.jobs.length + 1] }, d.jobs.length + 1, 0)

def ticketB (d : DeskM) (n : Int) : Bool := decide (1 ≤ n ∧ n ≤ d.jobs.length)
def workerB (d : DeskM) (n : Int) : Bool := decide (0 ≤ n ∧ n < d.c.workers)

/-- P10 -/
def poll (d : DeskM) (n : Int) : Int × List Int × Int × Int :=
  if d.ticketB n then ((d.job n.toNat).state, (d.job n.toNat).told, (d.job n.toNat).tries, 0) else (0, [], 0, 8)
def map (d : DeskM) : List (Int × Int) := listOf (mapF d.goods)

def left (l : List Nat) (n : Nat) : List Nat := l.filter fun k => decide (k ≠ n)

/-- P11 -/
def cancel (d : DeskM) (n : Int) : DeskM × Int :=
  if d.ticketB n = false then (d, 8)
  else if 2 < (d.job n.toNat).state then (d, 9)
  else ({ d.setJob n.toNat { d.job n.toNat with state := 6 } with queue := left d.queue n.toNat, urgent := left d.urgent n.toNat, workers := d.workers.map fun a => if a.ticket = n.toNat then att0 else a }, 0)

/-- P12 -/
def kill (d : DeskM) (i : Int) : DeskM × Int :=
  if d.workerB i = false then (d, 6)
  else
    let n := (d.workers.getD i.toNat att0).ticket
    if n = 0 then (d, 7)
    else
      let e := { d.setJob n { d.job n with state := 1 } with workers := d.workers.set i.toNat att0 }
      (if (d.job n).urgent then { e with urgent := n :: e.urgent } else { e with queue := n :: e.queue }, 0)

def idle (d : DeskM) : Bool := d.jobs.all fun j => decide (j.state ≠ 2)
def hurry (d : DeskM) : Bool := d.jobs.any fun j => j.urgent && decide (j.state ≤ 2)

/-- which job an idle worker takes; 0: none -/
def nextJob (d : DeskM) : Nat :=
  if d.hurry && d.idle then d.urgent.getD 0 0
  else if d.hurry = false then d.queue.getD 0 0
  else 0

/-- P7: an idle worker: the note's kind, ticket, partner -/
def taken (d : DeskM) (i : Nat) : DeskM × Int × Nat × Nat :=
  let n := d.nextJob
  if n = 0 then (d, 0, 0, 0)
  else ({ d.setJob n { d.job n with state := 2, tries := (d.job n).tries + 1 } with queue := left d.queue n, urgent := left d.urgent n, workers := d.workers.set i ⟨n, d.goods.length, 0⟩ }, 1, n, 0)

/-- have two sets of keys one in common? -/
def share (a b : List Bool) : Bool := (List.range 16).any fun k => a.getD k false && b.getD k false
def wroteL (p : Int → Option Int) : List Bool := (List.range 16).map fun k : Nat => (p k).isSome

/-- P8: the number of the partner; 0: none -/
def clash (d : DeskM) (t : GoodM) : Nat := ((List.range d.goods.length).reverse.find? fun u => decide (t.beg ≤ u) && share (wroteL (d.good (u + 1)).puts) (wroteL t.puts)).elim 0 (· + 1)
def pivot (d : DeskM) (t : GoodM) : Nat :=
  ((List.range d.goods.length).find? fun v => decide (t.beg ≤ v) && share (wroteL (d.good (v + 1)).puts) t.read && (List.range d.goods.length).any fun u => decide (v ≤ u) && share (d.good (u + 1)).read (wroteL t.puts)).elim 0 (· + 1)
def outer (d : DeskM) (t : GoodM) : Nat :=
  ((List.range d.goods.length).find? fun u => decide (t.beg ≤ u) && share (wroteL (d.good (u + 1)).puts) t.read &&
    (List.range u).any fun v => decide ((d.good (u + 1)).beg ≤ v) && share (wroteL (d.good (v + 1)).puts) (d.good (u + 1)).read && (share (wroteL t.puts) (wroteL t.puts) || decide (v + 1 ≤ t.beg))).elim 0 (· + 1)
def partner (d : DeskM) (t : GoodM) : Nat := if d.clash t ≠ 0 then d.clash t else if d.pivot t ≠ 0 then d.pivot t else d.outer t

/-- P9: an attempt of the job n came to nothing -/
def failedJ (d : DeskM) (n p : Nat) : DeskM × Int × Nat × Nat :=
  let j := d.job n
  if d.c.patience < j.failed + 1 then ({ d.setJob n { j with state := 1, failed := j.failed + 1, urgent := true } with urgent := d.urgent ++ [n] }, 4, n, p)
  else ({ d.setJob n { j with state := 1, failed := j.failed + 1 } with queue := d.queue ++ [n] }, 4, n, p)

/-- P8, P9: the attempt of the worker i has ended so -/
def looked (d : DeskM) (i : Nat) (x : Mo) (state : Int) : DeskM × Int × Nat × Nat :=
  let a := d.workers.getD i att0
  let t : GoodM := ⟨a.ticket, a.beg, x.read, if state = 3 then x.puts else fun _ => none⟩
  let e : DeskM := { d with workers := d.workers.set i att0 }
  if e.partner t ≠ 0 then e.failedJ a.ticket (e.good (e.partner t)).ticket
  else ({ e.setJob a.ticket { e.job a.ticket with state := state, told := x.told } with goods := e.goods ++ [t] }, 3, a.ticket, 0)

/-- P7: a worker that runs an attempt -/
def goes (d : DeskM) (i : Nat) : DeskM × Int × Nat × Nat :=
  let a := d.workers.getD i att0
  let l := (d.job a.ticket).steps
  let m := mapF (d.goods.take a.beg)
  let x := play l m a.done mo0
  if l.length ≤ x.pc then d.looked i x 3
  else if a.done = d.c.fuel then d.looked i x 5
  else
    let y := play l m (a.done + 1) mo0
    if y.fin ≠ 0 then d.looked i y y.fin
    else ({ d with workers := d.workers.set i { a with done := a.done + 1 } }, 2, a.ticket, 0)

/-- P7 -/
def pick (d : DeskM) (i : Int) : DeskM × (Int × Nat × Nat) × Int :=
  if d.workerB i = false then (d, (0, 0, 0), 6)
  else if (d.workers.getD i.toNat att0).ticket = 0 then ((d.taken i.toNat).1, (d.taken i.toNat).2, 0)
  else ((d.goes i.toNat).1, (d.goes i.toNat).2, 0)
end DeskM

end Go.Proofs.Ytlpdpmijmceboaa
