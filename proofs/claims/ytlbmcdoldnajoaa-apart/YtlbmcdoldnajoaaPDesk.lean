import Derived.Test.YtlbmcdoldnajoaaRefD

namespace Go.Proofs.Ytlbmcdoldnajoaa
open Go.RowKit
/-- a row whose block is q's -/
def Row (o : Nat → Option Nat) (q : Nat) (w : World) (e : TypeId) (s : Nat) (v : Value) (n : Nat) (xs : List Value) : Prop := w.ownsRow 0 e s v n xs ∧ ∀ k, v.ownBlock = some k → o k = some q
/-- a block that is q's -/
def Blk (o : Nat → Option Nat) (q : Nat) (w : World) (b : Nat) (c : Array Value) (t : TypeId) : Prop := o b = some q ∧ w.heap[b]? = some (.cells c t (0, 0))
/-- the old blocks belong to whom they did -/
def Own (w : World) (o o' : Nat → Option Nat) : Prop := ∀ k, k < w.heap.size → o' k = o k
theorem Own.refl (w : World) (o : Nat → Option Nat) : Own w o o := fun _ _ => rfl
theorem Row.keep {o o' : Nat → Option Nat} {q : Nat} {w w' : World} {e : TypeId} {s : Nat} {v : Value} {n : Nat} {xs : List Value} {R : Nat → Prop} (h : Row o q w e s v n xs) (hf : Fr R w w') (hR : ∀ k, o k = some q → ¬ R k) (ho : Own w o o') : Row o' q w' e s v n xs :=
  ⟨owns_fr h.1 hf (fun k hk => hR k (h.2 k hk)), fun k hk => (ho k (owns_lt h.1 hk).2).trans (h.2 k hk)⟩
theorem Blk.keep {o o' : Nat → Option Nat} {q : Nat} {w w' : World} {b : Nat} {c : Array Value} {t : TypeId} {R : Nat → Prop} (h : Blk o q w b c t) (hf : Fr R w w') (hR : ∀ k, o k = some q → ¬ R k) (ho : Own w o o') : Blk o' q w' b c t :=
  ⟨(ho b (blk_lt h.2)).trans h.1, hf.blk h.2 (hR b h.1)⟩
/-- what lies where: the lists of the desk, the workers' block, the tasks' blocks and lists, what the workers' runs told -/
structure PV where
  kv : Value
  jv : Value
  qv : Value
  uv : Value
  wb : Nat
  ts : List Nat
  sv : List Value
  tv : List Value
  rt : List Value
def confC (c : ConfM) : List Value := [natV c.workers, natV c.queue, natV c.fuel, natV c.patience]
/-- a task, in cells -/
def taskC (i : Nat) (j : TaskM) (s t : Value) : Array Value := #[natV (i + 1), .int .i64 j.state, natV j.tries, natV j.failed, s, t]
/-- where the task of that ticket lies -/
def tkV (ts : List Nat) (n : Nat) : Value := ptrV (ts.getD (n - 1) 0)
def tkO (ts : List Nat) (n : Nat) : Value := if n = 0 then .pointer none else tkV ts n
/-- an attempt, in cells -/
def atC (a : AtM) : List Value := natV a.ticket :: natV a.beg :: (rdCells a.read ++ rdCells a.wrote)
def knC (u : KnM) : List Value := atC u.a ++ [natV u.number, natV u.missed]
def knCells (l : List KnM) : List Value := (l.map knC).flatten
/-- a worker, in cells -/
def wkC (ts : List Nat) (a : WkM) (t : Value) : List Value := tkO ts a.ticket :: natV a.beg :: engCells a.st a.x (see a.m a.x.puts) t
def wkCells (ts : List Nat) (l : List WkM) (t : List Value) : List Value := (List.zipWith (wkC ts) l t).flatten
def tailC (p : PM) (v : PV) : List Value := [natV p.count, v.kv, v.jv, v.qv, v.uv, .slice (some ⟨v.wb, 0, none⟩) p.workers.length p.workers.length]
def deskC (p : PM) (v : PV) : List Value := confC p.c ++ mapCells p.vals ++ tailC p v
def AtM.ok (a : AtM) : Prop := a.read.length = 16 ∧ a.wrote.length = 16
def WkM.ok (a : WkM) : Prop := a.x.regs.length = 4 ∧ a.x.read.length = 16
/-- the program's desk at block b, but for the parts in X; o: whose each block is -/
structure PDr (X : Nat → Prop) (o : Nat → Option Nat) (w : World) (b : Nat) (p : PM) (v : PV) : Prop where
  blk : ¬ X 0 → Blk o 0 w b (deskC p v).toArray 131
  jobs : ¬ X 1 → Row o 1 w 139 1 v.jv p.tasks.length (v.ts.map ptrV)
  queue : ¬ X 2 → Row o 2 w 139 1 v.qv p.queue.length (p.queue.map (tkV v.ts))
  urg : ¬ X 3 → Row o 3 w 139 1 v.uv p.urgent.length (p.urgent.map (tkV v.ts))
  known : ¬ X 4 → Row o 4 w 187 36 v.kv p.known.length (knCells p.known)
  work : ¬ X 5 → Blk o 5 w v.wb (wkCells v.ts p.workers v.rt).toArray 163
  tb : ∀ i, i < p.tasks.length → ¬ X (6 + 4 * i) → Blk o (6 + 4 * i) w (v.ts.getD i 0) (taskC i (p.tasks.getD i task0) (v.sv.getD i nilV) (v.tv.getD i nilV)) 142
  st : ∀ i, i < p.tasks.length → ¬ X (7 + 4 * i) → Row o (7 + 4 * i) w 40 4 (v.sv.getD i nilV) (p.tasks.getD i task0).steps.length (stCells (p.tasks.getD i task0).steps)
  told : ∀ i, i < p.tasks.length → ¬ X (8 + 4 * i) → Row o (8 + 4 * i) w 3 1 (v.tv.getD i nilV) (p.tasks.getD i task0).told.length ((p.tasks.getD i task0).told.map (Value.int .i64))
  rtold : ∀ i, i < p.workers.length → ¬ X (9 + 4 * i) → Row o (9 + 4 * i) w 3 1 (v.rt.getD i nilV) (p.workers.getD i wk0).x.told.length ((p.workers.getD i wk0).x.told.map (Value.int .i64))
  tsl : v.ts.length = p.tasks.length
  sl : v.sv.length = p.tasks.length
  tl : v.tv.length = p.tasks.length
  rl : v.rt.length = p.workers.length
  wl : ∀ a ∈ p.workers, a.ok
  kl : ∀ u ∈ p.known, u.a.ok
def noX : Nat → Prop := fun _ => False
def PD (o : Nat → Option Nat) (w : World) (b : Nat) (p : PM) (v : PV) : Prop := PDr noX o w b p v
theorem PDr.keep {X R : Nat → Prop} {o o' : Nat → Option Nat} {w w' : World} {b : Nat} {p : PM} {v : PV} (h : PDr X o w b p v) (hf : Fr R w w') (hR : ∀ k q, o k = some q → R k → X q) (ho : Own w o o') : PDr X o' w' b p v :=
  have hq : ∀ q, ¬ X q → ∀ k, o k = some q → ¬ R k := fun q hx k hk hr => hx (hR k q hk hr)
  { h with
    blk := fun hx => (h.blk hx).keep hf (hq _ hx) ho
    jobs := fun hx => (h.jobs hx).keep hf (hq _ hx) ho
    queue := fun hx => (h.queue hx).keep hf (hq _ hx) ho
    urg := fun hx => (h.urg hx).keep hf (hq _ hx) ho
    known := fun hx => (h.known hx).keep hf (hq _ hx) ho
    work := fun hx => (h.work hx).keep hf (hq _ hx) ho
    tb := fun i hi hx => (h.tb i hi hx).keep hf (hq _ hx) ho
    st := fun i hi hx => (h.st i hi hx).keep hf (hq _ hx) ho
    told := fun i hi hx => (h.told i hi hx).keep hf (hq _ hx) ho
    rtold := fun i hi hx => (h.rtold i hi hx).keep hf (hq _ hx) ho }
theorem PDr.less {X Y : Nat → Prop} {o : Nat → Option Nat} {w : World} {b : Nat} {p : PM} {v : PV} (h : PDr X o w b p v) (hXY : ∀ q, X q → Y q) : PDr Y o w b p v :=
  have hq : ∀ {q}, ¬ Y q → ¬ X q := fun hy hx => hy (hXY _ hx)
  { h with
    blk := fun hx => h.blk (hq hx)
    jobs := fun hx => h.jobs (hq hx)
    queue := fun hx => h.queue (hq hx)
    urg := fun hx => h.urg (hq hx)
    known := fun hx => h.known (hq hx)
    work := fun hx => h.work (hq hx)
    tb := fun i hi hx => h.tb i hi (hq hx)
    st := fun i hi hx => h.st i hi (hq hx)
    told := fun i hi hx => h.told i hi (hq hx)
    rtold := fun i hi hx => h.rtold i hi (hq hx) }
/-- nothing of it was written -/
theorem PD.fr {o o' : Nat → Option Nat} {w w' : World} {b : Nat} {p : PM} {v : PV} (h : PD o w b p v) {R : Nat → Prop} (hf : Fr R w w') (hR : ∀ k, o k ≠ none → ¬ R k) (ho : Own w o o') : PD o' w' b p v :=
  PDr.keep h hf (fun k q hk hr => absurd hr (hR k (by rw [hk]; simp))) ho
theorem PD.below {o : Nat → Option Nat} {w w' : World} {b : Nat} {p : PM} {v : PV} (h : PD o w b p v) (hb : Below w.heap.size w w') : PD o w' b p v := h.fr (R := fun _ => False) (Fr.of_below hb) (fun _ _ h => h) (Own.refl _ _)
theorem PD.own {o o' : Nat → Option Nat} {w : World} {b : Nat} {p : PM} {v : PV} (h : PD o w b p v) (ho : Own w o o') : PD o' w b p v := h.fr (R := fun _ => False) (Fr.refl _ _) (fun _ _ h => h) ho
theorem nX {q : Nat} : ¬ noX q := fun h => h
namespace PD
variable {o : Nat → Option Nat} {w : World} {b : Nat} {p : PM} {v : PV}
theorem dblk (h : PD o w b p v) : w.heap[b]? = some (.cells (deskC p v).toArray 131 (0, 0)) := (h.blk nX).2
theorem free (h : PD o w b p v) (i : Nat) : w.frozen? ⟨b, i, none⟩ = false := blk_free h.dblk
theorem lt (h : PD o w b p v) : b < w.heap.size := blk_lt h.dblk
theorem mapAt (h : PD o w b p v) : MapAt w b 4 p.vals := blk_rangeAt h.dblk rfl
theorem tailAt (h : PD o w b p v) (j : Nat) : w.cell? ⟨b, 36 + j, none⟩ = (tailC p v)[j]? := by
  rw [blk_cell h.dblk, List.getElem?_toArray, deskC, List.getElem?_append_right (by simp [confC, length_mapCells]), show 36 + j - (confC p.c ++ mapCells p.vals).length = j by simp [confC, length_mapCells]]
theorem confAt (h : PD o w b p v) {j : Nat} (hj : j < 4) : w.cell? ⟨b, j, none⟩ = (confC p.c)[j]? := by
  rw [blk_cell h.dblk, List.getElem?_toArray, deskC, List.append_assoc, List.getElem?_append_left (by simpa [confC] using hj)]
theorem cCount (h : PD o w b p v) : w.cell? ⟨b, 36, none⟩ = some (.int .i64 (p.count : Int)) := h.tailAt 0
theorem cKnown (h : PD o w b p v) : w.cell? ⟨b, 37, none⟩ = some v.kv := h.tailAt 1
theorem cJobs (h : PD o w b p v) : w.cell? ⟨b, 38, none⟩ = some v.jv := h.tailAt 2
theorem cQueue (h : PD o w b p v) : w.cell? ⟨b, 39, none⟩ = some v.qv := h.tailAt 3
theorem cUrg (h : PD o w b p v) : w.cell? ⟨b, 40, none⟩ = some v.uv := h.tailAt 4
theorem cWork (h : PD o w b p v) : w.cell? ⟨b, 41, none⟩ = some (.slice (some ⟨v.wb, 0, none⟩) p.workers.length p.workers.length) := h.tailAt 5
theorem cCQ (h : PD o w b p v) : w.cell? ⟨b, 1, none⟩ = some (.int .i64 (p.c.queue : Int)) := h.confAt (j := 1) (by decide)
theorem cCF (h : PD o w b p v) : w.cell? ⟨b, 2, none⟩ = some (.int .i64 (p.c.fuel : Int)) := h.confAt (j := 2) (by decide)
theorem cCP (h : PD o w b p v) : w.cell? ⟨b, 3, none⟩ = some (.int .i64 (p.c.patience : Int)) := h.confAt (j := 3) (by decide)
theorem task (h : PD o w b p v) {i : Nat} (hi : i < p.tasks.length) : w.heap[v.ts.getD i 0]? = some (.cells (taskC i (p.tasks.getD i task0) (v.sv.getD i nilV) (v.tv.getD i nilV)) 142 (0, 0)) := (h.tb i hi nX).2
theorem cTk (h : PD o w b p v) {i : Nat} (hi : i < p.tasks.length) (j : Nat) : w.cell? ⟨v.ts.getD i 0, j, none⟩ = (taskC i (p.tasks.getD i task0) (v.sv.getD i nilV) (v.tv.getD i nilV))[j]? := blk_cell (h.task hi)
theorem jsGet (h : PD o w b p v) {i : Nat} (hi : i < p.tasks.length) : (v.ts.map ptrV)[i]? = some (ptrV (v.ts.getD i 0)) := by
  have hl := h.tsl
  simp [List.getD, hl, hi]
end PD
/-- the desk's cells behind the map: another -/
theorem deskC_set (p : PM) (v : PV) (j : Nat) (x : Value) {p' : PM} {v' : PV} (hc : p'.c = p.c) (hv : p'.vals = p.vals) (ht : (tailC p v).set j x = tailC p' v') : (deskC p v).toArray.setIfInBounds (36 + j) x = (deskC p' v').toArray := by
  rw [List.setIfInBounds_toArray, deskC, List.set_append_right _ _ (by simp [confC, length_mapCells]), show 36 + j - (confC p.c ++ mapCells p.vals).length = j by simp [confC, length_mapCells], ht, deskC, hc, hv]
end Go.Proofs.Ytlbmcdoldnajoaa
