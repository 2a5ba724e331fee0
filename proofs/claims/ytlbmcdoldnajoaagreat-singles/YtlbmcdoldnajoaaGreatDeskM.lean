import Derived.Test.YtlbmcdoldnajoaaGreatOk
namespace Go.Proofs.YtlbmcdoldnajoaaGreat
structure JobM where
  steps : List St
  state : Int
  told : List Int
  tries : Nat
  failed : Nat
  urgent : Bool
def jobM0 : JobM := ⟨[], 0, [], 0, 0, false⟩
structure AttM where
  ticket : Nat
  beg : Nat
  done : Nat
def att0 : AttM := ⟨0, 0, 0⟩
structure GoodM where
  ticket : Nat
  beg : Nat
  read : List Bool
  puts : Int → Option Int
def good0 : GoodM := ⟨0, 0, [], fun _ => none⟩
structure ConfM where
  workers : Nat
  queue : Nat
  fuel : Nat
  patience : Nat
structure DeskM where
  c : ConfM
  jobs : List JobM
  queue : List Nat
  urgent : List Nat
  workers : List AttM
  goods : List GoodM
def confB (w q f p : Int) : Bool := decide (1 ≤ w ∧ w ≤ 4) && decide (1 ≤ q ∧ q ≤ 8) && decide (1 ≤ f ∧ f ≤ 200) && decide (0 ≤ p ∧ p ≤ 5)
def desk0 (c : ConfM) : DeskM := ⟨c, [], [], [], List.replicate c.workers att0, []⟩
def mapF (gs : List GoodM) : Int → Int := gs.foldl (fun m g => see m g.puts) (fun _ => -1)
theorem mapF_snoc (gs : List GoodM) (g : GoodM) : mapF (gs ++ [g]) = see (mapF gs) g.puts := by simp [mapF]
namespace DeskM
def job (d : DeskM) (n : Nat) : JobM := d.jobs.getD (n - 1) jobM0
def setJob (d : DeskM) (n : Nat) (j : JobM) : DeskM := { d with jobs := d.jobs.set (n - 1) j }
def waiting (d : DeskM) : Nat := (d.jobs.filter fun j => decide (j.state = 1)).length
def good (d : DeskM) (n : Nat) : GoodM := d.goods.getD (n - 1) good0
def submit (d : DeskM) (l : List St) : DeskM × Nat × Int :=
  if jobB l = false then (d, 0, 1)
  else if d.c.queue ≤ d.waiting then (d, 0, 5)
  else ({ d with jobs := d.jobs ++ [⟨l, 1, [], 0, 0, false⟩], queue := d.queue ++ [d.jobs.length + 1] }, d.jobs.length + 1, 0)
def ticketB (d : DeskM) (n : Int) : Bool := decide (1 ≤ n ∧ n ≤ d.jobs.length)
def workerB (d : DeskM) (n : Int) : Bool := decide (0 ≤ n ∧ n < d.c.workers)
def poll (d : DeskM) (n : Int) : Int × List Int × Int × Int :=
  if d.ticketB n then ((d.job n.toNat).state, (d.job n.toNat).told, (d.job n.toNat).tries, 0) else (0, [], 0, 8)
def left (l : List Nat) (n : Nat) : List Nat := l.filter fun k => decide (k ≠ n)
def cancel (d : DeskM) (n : Int) : DeskM × Int :=
  if d.ticketB n = false then (d, 8)
  else if 2 < (d.job n.toNat).state then (d, 9)
  else ({ d.setJob n.toNat { d.job n.toNat with state := 6 } with queue := left d.queue n.toNat, urgent := left d.urgent n.toNat, workers := d.workers.map fun a => if a.ticket = n.toNat then att0 else a }, 0)
def kill (d : DeskM) (i : Int) : DeskM × Int :=
  if d.workerB i = false then (d, 6)
  else
    let n := (d.workers.getD i.toNat att0).ticket
    if n = 0 then (d, 7)
    else
      let e := { d.setJob n { d.job n with state := 1 } with workers := d.workers.set i.toNat att0 }
      (if (d.job n).urgent then { e with urgent := n :: e.urgent } else { e with queue := n :: e.queue }, 0)
def idle (d : DeskM) : Bool := d.jobs.all fun j => decide (j.state ≠ 2)
def hurry (d : DeskM) : Bool := d.jobs.any fun j => j.urgent && decide (j.state ≤ 2)
def nextJob (d : DeskM) : Nat :=
  if d.hurry && d.idle then d.urgent.getD 0 0
  else if d.hurry = false then d.queue.getD 0 0
  else 0
def taken (d : DeskM) (i : Nat) : DeskM × Int × Nat × Nat :=
  let n := d.nextJob
  if n = 0 then (d, 0, 0, 0)
  else ({ d.setJob n { d.job n with state := 2, tries := (d.job n).tries + 1 } with queue := left d.queue n, urgent := left d.urgent n, workers := d.workers.set i ⟨n, d.goods.length, 0⟩ }, 1, n, 0)
def share (a b : List Bool) : Bool := (List.range 16).any fun k => a.getD k false && b.getD k false
def wroteL (p : Int → Option Int) : List Bool := (List.range 16).map fun k : Nat => (p k).isSome
def clash (d : DeskM) (t : GoodM) : Nat := ((List.range d.goods.length).reverse.find? fun u => decide (t.beg ≤ u) && share (wroteL (d.good (u + 1)).puts) (wroteL t.puts)).elim 0 (· + 1)
def pivot (d : DeskM) (t : GoodM) : Nat :=
  ((List.range d.goods.length).find? fun v => decide (t.beg ≤ v) && share (wroteL (d.good (v + 1)).puts) t.read && (List.range d.goods.length).any fun u => decide (v ≤ u) && share (d.good (u + 1)).read (wroteL t.puts)).elim 0 (· + 1)
def outer (d : DeskM) (t : GoodM) : Nat :=
  ((List.range d.goods.length).find? fun u => decide (t.beg ≤ u) && share (wroteL (d.good (u + 1)).puts) t.read &&
    (List.range u).any fun v => decide ((d.good (u + 1)).beg ≤ v) && share (wroteL (d.good (v + 1)).puts) (d.good (u + 1)).read && (share (wroteL t.puts) (wroteL t.puts) || decide (v + 1 ≤ t.beg))).elim 0 (· + 1)
def partner (d : DeskM) (t : GoodM) : Nat := if d.clash t ≠ 0 then d.clash t else if d.pivot t ≠ 0 then d.pivot t else d.outer t
def failedJ (d : DeskM) (n p : Nat) : DeskM × Int × Nat × Nat :=
  let j := d.job n
  if d.c.patience < j.failed + 1 then ({ d.setJob n { j with state := 1, failed := j.failed + 1, urgent := true } with urgent := d.urgent ++ [n] }, 4, n, p)
  else ({ d.setJob n { j with state := 1, failed := j.failed + 1 } with queue := d.queue ++ [n] }, 4, n, p)
def looked (d : DeskM) (i : Nat) (x : Mo) (state : Int) : DeskM × Int × Nat × Nat :=
  let a := d.workers.getD i att0
  let t : GoodM := ⟨a.ticket, a.beg, x.read, if state = 3 then x.puts else fun _ => none⟩
  let e : DeskM := { d with workers := d.workers.set i att0 }
  if e.partner t ≠ 0 then e.failedJ a.ticket (e.good (e.partner t)).ticket
  else ({ e.setJob a.ticket { e.job a.ticket with state := state, told := x.told } with goods := e.goods ++ [t] }, 3, a.ticket, 0)
def goes (d : DeskM) (i : Nat) : DeskM × Int × Nat × Nat :=
  let a := d.workers.getD i att0
  let l := (d.job a.ticket).steps
  let m := mapF (d.goods.take a.beg)
  let x := play l m a.done mo0
  if l.length ≤ x.pc then d.looked i x 3
  else if a.done = d.c.fuel then d.looked i x 5
  else
    let y := play l m (a.done + 1) mo0
    if y.fin ≠ 0 then d.looked i y y.fin
    else ({ d with workers := d.workers.set i { a with done := a.done + 1 } }, 2, a.ticket, 0)
def pick (d : DeskM) (i : Int) : DeskM × (Int × Nat × Nat) × Int :=
  if d.workerB i = false then (d, (0, 0, 0), 6)
  else if (d.workers.getD i.toNat att0).ticket = 0 then ((d.taken i.toNat).1, (d.taken i.toNat).2, 0)
  else ((d.goes i.toNat).1, (d.goes i.toNat).2, 0)
end DeskM
structure TaskM where
  state : Int
  tries : Nat
  failed : Nat
  steps : List St
  told : List Int
def task0 : TaskM := ⟨0, 0, 0, [], []⟩
structure WkM where
  ticket : Nat
  beg : Nat
  st : Int
  x : Mo
  m : Int → Int
def wk0 : WkM := ⟨0, 0, 0, mo0, fun _ => -1⟩
structure AtM where
  ticket : Nat
  beg : Nat
  read : List Bool
  wrote : List Bool
structure KnM where
  a : AtM
  number : Nat
  missed : Nat
def at0 : AtM := ⟨0, 0, List.replicate 16 false, List.replicate 16 false⟩
def kn0 : KnM := ⟨at0, 0, 0⟩
structure PM where
  c : ConfM
  vals : Int → Int
  count : Nat
  known : List KnM
  tasks : List TaskM
  queue : List Nat
  urgent : List Nat
  workers : List WkM
namespace PM
def task (p : PM) (n : Nat) : TaskM := p.tasks.getD (n - 1) task0
def setTask (p : PM) (n : Nat) (t : TaskM) : PM := { p with tasks := p.tasks.set (n - 1) t }
def wk (p : PM) (i : Nat) : WkM := p.workers.getD i wk0
def isUrgent (p : PM) (n : Nat) : Bool := decide (p.c.patience < (p.task n).failed)
def waiting (p : PM) : Nat := p.queue.length + (p.urgent.filter fun n => decide ((p.task n).state = 1)).length
def allIdle (p : PM) : Bool := p.workers.all fun a => decide (a.ticket = 0)
def next (p : PM) : Nat := if p.urgent = [] then p.queue.getD 0 0 else if p.allIdle then p.urgent.getD 0 0 else 0
end PM
namespace KnM
def later (u : KnM) (t : AtM) : Bool := decide (t.beg < u.number)
def missedFor (u : KnM) (t : AtM) : Bool := decide (u.missed ≠ 0) && (t.wrote.any id || decide (u.missed ≤ t.beg))
end KnM
def clashK (t : AtM) : List KnM → Nat → Nat
  | [], p => p
  | u :: r, p => clashK t r (if u.later t && DeskM.share u.a.wrote t.wrote then u.a.ticket else p)
def pivotK (t : AtM) : List KnM → Nat → Nat
  | [], _ => 0
  | u :: r, p =>
    if u.later t = false then pivotK t r p
    else
      let q := if decide (p = 0) && DeskM.share u.a.wrote t.read then u.a.ticket else p
      if decide (q ≠ 0) && DeskM.share u.a.read t.wrote then q else pivotK t r q
def outerK (t : AtM) : List KnM → Nat
  | [] => 0
  | u :: r => if u.later t && DeskM.share u.a.wrote t.read && u.missedFor t then u.a.ticket else outerK t r
def partnerK (t : AtM) (l : List KnM) : Nat := if clashK t l 0 ≠ 0 then clashK t l 0 else if pivotK t l 0 ≠ 0 then pivotK t l 0 else outerK t l
def missedK (t : AtM) : List KnM → Nat
  | [] => 0
  | u :: r => if u.later t && DeskM.share u.a.wrote t.read then u.number else missedK t r
def forgetK (b : Nat) (l : List KnM) : List KnM := if l = [] ∨ b < (l.getD 0 kn0).number then l else l.filter fun u => decide (b < u.number)
def leastK : List WkM → Nat → Nat
  | [], n => n
  | a :: r, n => leastK r (if a.ticket ≠ 0 ∧ a.beg < n then a.beg else n)
namespace PM
def rest (p : PM) (i : Nat) : PM :=
  let q : PM := { p with workers := p.workers.set i wk0 }
  { q with known := forgetK (leastK q.workers q.count) q.known }
def attempt (p : PM) (i : Nat) : AtM := ⟨(p.wk i).ticket, (p.wk i).beg, (p.wk i).x.read, if (p.wk i).st = 3 then DeskM.wroteL (p.wk i).x.puts else List.replicate 16 false⟩
def retry (p : PM) (i : Nat) : PM :=
  let n := (p.wk i).ticket
  let q := p.setTask n { p.task n with state := 1, failed := (p.task n).failed + 1 }
  (if q.isUrgent n then { q with urgent := q.urgent ++ [n] } else { q with queue := q.queue ++ [n] }).rest i
def add (p : PM) (t : AtM) : PM := { p with count := p.count + 1, known := p.known ++ [⟨t, p.count + 1, missedK t p.known⟩] }
def accept (p : PM) (i : Nat) : PM :=
  let a := p.wk i
  let n := a.ticket
  let q := p.setTask n { p.task n with state := a.st, steps := [], told := a.x.told }
  ({ q with vals := if a.st = 3 then see q.vals a.x.puts else q.vals, urgent := DeskM.left q.urgent n }).rest i
def look (p : PM) (i : Nat) : PM × Int × Nat × Nat :=
  let t := p.attempt i
  if partnerK t p.known ≠ 0 then (p.retry i, 4, t.ticket, partnerK t p.known) else ((p.add t).accept i, 3, t.ticket, 0)
def take (p : PM) (i : Nat) : PM × Int × Nat × Nat :=
  let n := p.next
  if n = 0 then (p, 0, 0, 0)
  else ({ p.setTask n { p.task n with state := 2, tries := (p.task n).tries + 1 } with queue := DeskM.left p.queue n, workers := p.workers.set i ⟨n, p.count, 2, mo0, p.vals⟩ }, 1, n, 0)
def goOn (p : PM) (i : Nat) : PM × Int × Nat × Nat :=
  let a := p.wk i
  let y := nextE (p.task a.ticket).steps a.m p.c.fuel a.x
  let q : PM := { p with workers := p.workers.set i { a with st := y.1, x := y.2 } }
  if y.1 = 2 then (q, 2, a.ticket, 0) else q.look i
def pick (p : PM) (i : Int) : PM × (Int × Nat × Nat) × Int :=
  if decide (0 ≤ i ∧ i < p.workers.length) = false then (p, (0, 0, 0), 6)
  else if (p.wk i.toNat).ticket = 0 then ((p.take i.toNat).1, (p.take i.toNat).2, 0)
  else ((p.goOn i.toNat).1, (p.goOn i.toNat).2, 0)
def submit (p : PM) (l : List St) : PM × Nat × Int :=
  if jobB l = false then (p, 0, 1)
  else if p.c.queue ≤ p.waiting then (p, 0, 5)
  else ({ p with tasks := p.tasks ++ [⟨1, 0, 0, l, []⟩], queue := p.queue ++ [p.tasks.length + 1] }, p.tasks.length + 1, 0)
def kill (p : PM) (i : Int) : PM × Int :=
  if decide (0 ≤ i ∧ i < p.workers.length) = false then (p, 6)
  else
    let n := (p.wk i.toNat).ticket
    if n = 0 then (p, 7)
    else
      let q := p.setTask n { p.task n with state := 1 }
      ((if q.isUrgent n then q else { q with queue := n :: q.queue }).rest i.toNat, 0)
def release (n : Nat) (p : PM) : Nat → PM
  | 0 => p
  | k + 1 => let q := release n p k; if (q.wk k).ticket ≠ 0 ∧ (q.wk k).ticket = n then q.rest k else q
def cancel (p : PM) (n : Int) : PM × Int :=
  if decide (1 ≤ n ∧ n ≤ p.tasks.length) = false then (p, 8)
  else if (p.task n.toNat).state ≠ 1 ∧ (p.task n.toNat).state ≠ 2 then (p, 9)
  else
    let q := p.setTask n.toNat { p.task n.toNat with state := 6, steps := [] }
    (release n.toNat { q with queue := DeskM.left q.queue n.toNat, urgent := DeskM.left q.urgent n.toNat } p.workers.length, 0)
def poll (p : PM) (n : Int) : Int × List Int × Int × Int :=
  if decide (1 ≤ n ∧ n ≤ p.tasks.length) then ((p.task n.toNat).state, (p.task n.toNat).told, (p.task n.toNat).tries, 0) else (0, [], 0, 8)
end PM
def taskOf (j : JobM) : TaskM := ⟨j.state, j.tries, j.failed, if j.state ≤ 2 then j.steps else [], j.told⟩
def wkOf (d : DeskM) (a : AttM) : WkM := if a.ticket = 0 then wk0 else ⟨a.ticket, a.beg, 2, play (d.job a.ticket).steps (mapF (d.goods.take a.beg)) a.done mo0, mapF (d.goods.take a.beg)⟩
def missedOf (gs : List GoodM) (u : Nat) : Nat := ((List.range u).find? fun v => decide ((gs.getD u good0).beg ≤ v) && DeskM.share (DeskM.wroteL (gs.getD v good0).puts) (gs.getD u good0).read).elim 0 (· + 1)
def knOf (gs : List GoodM) (u : Nat) : KnM := ⟨⟨(gs.getD u good0).ticket, (gs.getD u good0).beg, (gs.getD u good0).read, DeskM.wroteL (gs.getD u good0).puts⟩, u + 1, missedOf gs u⟩
def knownOf (gs : List GoodM) (n : Nat) : List KnM := ((List.range gs.length).filter fun u => decide (n < u + 1)).map (knOf gs)
def runU (d : DeskM) : List Nat := (d.workers.filter fun a => decide (a.ticket ≠ 0) && (d.job a.ticket).urgent).map (·.ticket)
def progOf (d : DeskM) : PM := ⟨d.c, mapF d.goods, d.goods.length, knownOf d.goods (leastK (d.workers.map (wkOf d)) d.goods.length), d.jobs.map taskOf, d.queue, runU d ++ d.urgent, d.workers.map (wkOf d)⟩
end Go.Proofs.YtlbmcdoldnajoaaGreat
