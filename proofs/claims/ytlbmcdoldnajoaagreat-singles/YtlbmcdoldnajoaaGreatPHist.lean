import Derived.Test.YtlbmcdoldnajoaaGreatRefD
set_option maxRecDepth 100000
set_option maxHeartbeats 400000
namespace Go.Proofs.YtlbmcdoldnajoaaGreat
open Go.RowKit
def Row (o : Nat → Option Nat) (q : Nat) (w : World) (e : TypeId) (s : Nat) (v : Value) (n : Nat) (xs : List Value) : Prop := w.ownsRow 0 e s v n xs ∧ ∀ k, v.ownBlock = some k → o k = some q
def Blk (o : Nat → Option Nat) (q : Nat) (w : World) (b : Nat) (c : Array Value) (t : TypeId) : Prop := o b = some q ∧ w.heap[b]? = some (.cells c t (0, 0))
def Own (w : World) (o o' : Nat → Option Nat) : Prop := ∀ k, k < w.heap.size → o' k = o k
theorem Own.refl (w : World) (o : Nat → Option Nat) : Own w o o := fun _ _ => rfl
theorem Row.keep {o o' : Nat → Option Nat} {q : Nat} {w w' : World} {e : TypeId} {s : Nat} {v : Value} {n : Nat} {xs : List Value} {R : Nat → Prop} (h : Row o q w e s v n xs) (hf : Fr R w w') (hR : ∀ k, o k = some q → ¬ R k) (ho : Own w o o') : Row o' q w' e s v n xs :=
  ⟨owns_fr h.1 hf (fun k hk => hR k (h.2 k hk)), fun k hk => (ho k (owns_lt h.1 hk).2).trans (h.2 k hk)⟩
theorem Blk.keep {o o' : Nat → Option Nat} {q : Nat} {w w' : World} {b : Nat} {c : Array Value} {t : TypeId} {R : Nat → Prop} (h : Blk o q w b c t) (hf : Fr R w w') (hR : ∀ k, o k = some q → ¬ R k) (ho : Own w o o') : Blk o' q w' b c t :=
  ⟨(ho b (blk_lt h.2)).trans h.1, hf.blk h.2 (hR b h.1)⟩
structure PV where
  kv : Value
  jv : Value
  qv : Value
  uv : Value
  wb : Nat
  ts : List Nat
  sv : List Value
  tv : List Value
  rt : List Value
def confC (c : ConfM) : List Value := [natV c.workers, natV c.queue, natV c.fuel, natV c.patience]
def taskC (i : Nat) (j : TaskM) (s t : Value) : Array Value := #[natV (i + 1), .int .i64 j.state, natV j.tries, natV j.failed, s, t]
def tkV (ts : List Nat) (n : Nat) : Value := ptrV (ts.getD (n - 1) 0)
def tkO (ts : List Nat) (n : Nat) : Value := if n = 0 then .pointer none else tkV ts n
def atC (a : AtM) : List Value := natV a.ticket :: natV a.beg :: (rdCells a.read ++ rdCells a.wrote)
def knC (u : KnM) : List Value := atC u.a ++ [natV u.number, natV u.missed]
def knCells (l : List KnM) : List Value := (l.map knC).flatten
def wkC (ts : List Nat) (a : WkM) (t : Value) : List Value := tkO ts a.ticket :: natV a.beg :: engCells a.st a.x (see a.m a.x.puts) t
def wkCells (ts : List Nat) (l : List WkM) (t : List Value) : List Value := (List.zipWith (wkC ts) l t).flatten
def tailC (p : PM) (v : PV) : List Value := [natV p.count, v.kv, v.jv, v.qv, v.uv, .slice (some ⟨v.wb, 0, none⟩) p.workers.length p.workers.length]
def deskC (p : PM) (v : PV) : List Value := confC p.c ++ mapCells p.vals ++ tailC p v
def AtM.ok (a : AtM) : Prop := a.read.length = 16 ∧ a.wrote.length = 16
def WkM.ok (a : WkM) : Prop := a.x.regs.length = 4 ∧ a.x.read.length = 16
structure PDr (X : Nat → Prop) (o : Nat → Option Nat) (w : World) (b : Nat) (p : PM) (v : PV) : Prop where
  blk : ¬ X 0 → Blk o 0 w b (deskC p v).toArray 77
  jobs : ¬ X 1 → Row o 1 w 125 1 v.jv p.tasks.length (v.ts.map ptrV)
  queue : ¬ X 2 → Row o 2 w 125 1 v.qv p.queue.length (p.queue.map (tkV v.ts))
  urg : ¬ X 3 → Row o 3 w 125 1 v.uv p.urgent.length (p.urgent.map (tkV v.ts))
  known : ¬ X 4 → Row o 4 w 165 36 v.kv p.known.length (knCells p.known)
  work : ¬ X 5 → Blk o 5 w v.wb (wkCells v.ts p.workers v.rt).toArray 140
  tb : ∀ i, i < p.tasks.length → ¬ X (6 + 4 * i) → Blk o (6 + 4 * i) w (v.ts.getD i 0) (taskC i (p.tasks.getD i task0) (v.sv.getD i nilV) (v.tv.getD i nilV)) 128
  st : ∀ i, i < p.tasks.length → ¬ X (7 + 4 * i) → Row o (7 + 4 * i) w 95 4 (v.sv.getD i nilV) (p.tasks.getD i task0).steps.length (stCells (p.tasks.getD i task0).steps)
  told : ∀ i, i < p.tasks.length → ¬ X (8 + 4 * i) → Row o (8 + 4 * i) w 3 1 (v.tv.getD i nilV) (p.tasks.getD i task0).told.length ((p.tasks.getD i task0).told.map (Value.int .i64))
  rtold : ∀ i, i < p.workers.length → ¬ X (9 + 4 * i) → Row o (9 + 4 * i) w 3 1 (v.rt.getD i nilV) (p.workers.getD i wk0).x.told.length ((p.workers.getD i wk0).x.told.map (Value.int .i64))
  tsl : v.ts.length = p.tasks.length
  sl : v.sv.length = p.tasks.length
  tl : v.tv.length = p.tasks.length
  rl : v.rt.length = p.workers.length
  wl : ∀ a ∈ p.workers, a.ok
  kl : ∀ u ∈ p.known, u.a.ok
def noX : Nat → Prop := fun _ => False
def PD (o : Nat → Option Nat) (w : World) (b : Nat) (p : PM) (v : PV) : Prop := PDr noX o w b p v
theorem PDr.keep {X R : Nat → Prop} {o o' : Nat → Option Nat} {w w' : World} {b : Nat} {p : PM} {v : PV} (h : PDr X o w b p v) (hf : Fr R w w') (hR : ∀ k q, o k = some q → R k → X q) (ho : Own w o o') : PDr X o' w' b p v :=
  have hq : ∀ q, ¬ X q → ∀ k, o k = some q → ¬ R k := fun q hx k hk hr => hx (hR k q hk hr)
  { h with
    blk := fun hx => (h.blk hx).keep hf (hq _ hx) ho
    jobs := fun hx => (h.jobs hx).keep hf (hq _ hx) ho
    queue := fun hx => (h.queue hx).keep hf (hq _ hx) ho
    urg := fun hx => (h.urg hx).keep hf (hq _ hx) ho
    known := fun hx => (h.known hx).keep hf (hq _ hx) ho
    work := fun hx => (h.work hx).keep hf (hq _ hx) ho
    tb := fun i hi hx => (h.tb i hi hx).keep hf (hq _ hx) ho
    st := fun i hi hx => (h.st i hi hx).keep hf (hq _ hx) ho
    told := fun i hi hx => (h.told i hi hx).keep hf (hq _ hx) ho
    rtold := fun i hi hx => (h.rtold i hi hx).keep hf (hq _ hx) ho }
theorem PDr.less {X Y : Nat → Prop} {o : Nat → Option Nat} {w : World} {b : Nat} {p : PM} {v : PV} (h : PDr X o w b p v) (hXY : ∀ q, X q → Y q) : PDr Y o w b p v :=
  have hq : ∀ {q}, ¬ Y q → ¬ X q := fun hy hx => hy (hXY _ hx)
  { h with
    blk := fun hx => h.blk (hq hx)
    jobs := fun hx => h.jobs (hq hx)
    queue := fun hx => h.queue (hq hx)
    urg := fun hx => h.urg (hq hx)
    known := fun hx => h.known (hq hx)
    work := fun hx => h.work (hq hx)
    tb := fun i hi hx => h.tb i hi (hq hx)
    st := fun i hi hx => h.st i hi (hq hx)
    told := fun i hi hx => h.told i hi (hq hx)
    rtold := fun i hi hx => h.rtold i hi (hq hx) }
theorem PD.fr {o o' : Nat → Option Nat} {w w' : World} {b : Nat} {p : PM} {v : PV} (h : PD o w b p v) {R : Nat → Prop} (hf : Fr R w w') (hR : ∀ k, o k ≠ none → ¬ R k) (ho : Own w o o') : PD o' w' b p v :=
  PDr.keep h hf (fun k q hk hr => absurd hr (hR k (by rw [hk]; simp))) ho
theorem PD.below {o : Nat → Option Nat} {w w' : World} {b : Nat} {p : PM} {v : PV} (h : PD o w b p v) (hb : Below w.heap.size w w') : PD o w' b p v := h.fr (R := fun _ => False) (Fr.of_below hb) (fun _ _ h => h) (Own.refl _ _)
theorem PD.own {o o' : Nat → Option Nat} {w : World} {b : Nat} {p : PM} {v : PV} (h : PD o w b p v) (ho : Own w o o') : PD o' w b p v := h.fr (R := fun _ => False) (Fr.refl _ _) (fun _ _ h => h) ho
theorem nX {q : Nat} : ¬ noX q := fun h => h
namespace PD
variable {o : Nat → Option Nat} {w : World} {b : Nat} {p : PM} {v : PV}
theorem dblk (h : PD o w b p v) : w.heap[b]? = some (.cells (deskC p v).toArray 77 (0, 0)) := (h.blk nX).2
theorem free (h : PD o w b p v) (i : Nat) : w.frozen? ⟨b, i, none⟩ = false := blk_free h.dblk
theorem lt (h : PD o w b p v) : b < w.heap.size := blk_lt h.dblk
theorem mapAt (h : PD o w b p v) : MapAt w b 4 p.vals := blk_rangeAt h.dblk rfl
theorem tailAt (h : PD o w b p v) (j : Nat) : w.cell? ⟨b, 36 + j, none⟩ = (tailC p v)[j]? := by
  rw [blk_cell h.dblk, List.getElem?_toArray, deskC, List.getElem?_append_right (by simp [confC, length_mapCells]), show 36 + j - (confC p.c ++ mapCells p.vals).length = j by simp [confC, length_mapCells]]
theorem confAt (h : PD o w b p v) {j : Nat} (hj : j < 4) : w.cell? ⟨b, j, none⟩ = (confC p.c)[j]? := by
  rw [blk_cell h.dblk, List.getElem?_toArray, deskC, List.append_assoc, List.getElem?_append_left (by simpa [confC] using hj)]
theorem cCount (h : PD o w b p v) : w.cell? ⟨b, 36, none⟩ = some (.int .i64 (p.count : Int)) := h.tailAt 0
theorem cKnown (h : PD o w b p v) : w.cell? ⟨b, 37, none⟩ = some v.kv := h.tailAt 1
theorem cJobs (h : PD o w b p v) : w.cell? ⟨b, 38, none⟩ = some v.jv := h.tailAt 2
theorem cQueue (h : PD o w b p v) : w.cell? ⟨b, 39, none⟩ = some v.qv := h.tailAt 3
theorem cUrg (h : PD o w b p v) : w.cell? ⟨b, 40, none⟩ = some v.uv := h.tailAt 4
theorem cWork (h : PD o w b p v) : w.cell? ⟨b, 41, none⟩ = some (.slice (some ⟨v.wb, 0, none⟩) p.workers.length p.workers.length) := h.tailAt 5
theorem cCQ (h : PD o w b p v) : w.cell? ⟨b, 1, none⟩ = some (.int .i64 (p.c.queue : Int)) := h.confAt (j := 1) (by decide)
theorem cCF (h : PD o w b p v) : w.cell? ⟨b, 2, none⟩ = some (.int .i64 (p.c.fuel : Int)) := h.confAt (j := 2) (by decide)
theorem cCP (h : PD o w b p v) : w.cell? ⟨b, 3, none⟩ = some (.int .i64 (p.c.patience : Int)) := h.confAt (j := 3) (by decide)
theorem task (h : PD o w b p v) {i : Nat} (hi : i < p.tasks.length) : w.heap[v.ts.getD i 0]? = some (.cells (taskC i (p.tasks.getD i task0) (v.sv.getD i nilV) (v.tv.getD i nilV)) 128 (0, 0)) := (h.tb i hi nX).2
theorem cTk (h : PD o w b p v) {i : Nat} (hi : i < p.tasks.length) (j : Nat) : w.cell? ⟨v.ts.getD i 0, j, none⟩ = (taskC i (p.tasks.getD i task0) (v.sv.getD i nilV) (v.tv.getD i nilV))[j]? := blk_cell (h.task hi)
theorem jsGet (h : PD o w b p v) {i : Nat} (hi : i < p.tasks.length) : (v.ts.map ptrV)[i]? = some (ptrV (v.ts.getD i 0)) := by
  have hl := h.tsl
  simp [List.getD, hl, hi]
end PD
theorem deskC_set (p : PM) (v : PV) (j : Nat) (x : Value) {p' : PM} {v' : PV} (hc : p'.c = p.c) (hv : p'.vals = p.vals) (ht : (tailC p v).set j x = tailC p' v') : (deskC p v).toArray.setIfInBounds (36 + j) x = (deskC p' v').toArray := by
  rw [List.setIfInBounds_toArray, deskC, List.set_append_right _ _ (by simp [confC, length_mapCells]), show 36 + j - (confC p.c ++ mapCells p.vals).length = j by simp [confC, length_mapCells], ht, deskC, hc, hv]
end Go.Proofs.YtlbmcdoldnajoaaGreat
namespace Go.Proofs.YtlbmcdoldnajoaaGreat
open Go.RowKit
attribute [local go_sem ↓] wStM wStR wLdM wLdR wLdK wStK
def shareN (a b : List Bool) (j : Nat) : Bool := (List.range j).any fun k => a.getD k false && b.getD k false
theorem shareN_succ (a b : List Bool) (j : Nat) : shareN a b (j + 1) = (shareN a b j || (a.getD j false && b.getD j false)) := by simp [shareN, List.range_succ]
theorem share_true {a b : List Bool} {j : Nat} (hj : j < 16) (h1 : a.getD j false = true) (h2 : b.getD j false = true) : DeskM.share a b = true := by
  simp only [DeskM.share, List.any_eq_true, List.mem_range, Bool.and_eq_true]
  exact ⟨j, hj, h1, h2⟩
def GaveB (t : Bool) (w : World) (e : Ending) (w' : World) : Prop := e = .returned (.bool t) ∧ Below w.heap.size w w'
theorem meet_any (A B : List Bool) (hA : A.length = 16) (hB : B.length = 16) (w : World) :
    Calls Tryz.prog 121 #[.agg (rdCells A).toArray, .agg (rdCells B).toArray] w fun e w' => GaveB (DeskM.share A B) w e w' := by
  obtain ⟨ca, has⟩ : ∃ ca, ca = (rdCells A).toArray := ⟨_, rfl⟩
  obtain ⟨bs, hbs⟩ : ∃ bs, bs = (rdCells B).toArray := ⟨_, rfl⟩
  have HA : Hid (ca = (rdCells A).toArray) := has
  have HB : Hid (bs = (rdCells B).toArray) := hbs
  rw [← has, ← hbs]
  clear has hbs
  go_enter Tryz.func121, Tryz.ntmps121
  go_wp2
  go_loopw [5] (fun i wr => ∃ j : Nat, j ≤ 16 ∧ i = .int .i64 j ∧ shareN A B j = false ∧ SetBlk wr w.heap.size A ∧ SetBlk wr (w.heap.size + 1) B ∧ Below w.heap.size w wr) (fun i _ => 16 - (intOf i).toNat)
  case atStart =>
    refine ⟨0, Nat.zero_le _, rfl, rfl, ?_, ?_, ?_⟩
    · rw [SetBlk, ← HA.out]; exact new0E _ _ _
    · rw [SetBlk, ← HB.out]; exact new1E _ _ _
    · exact ((Below.refl _ _).alloc (Nat.le_refl _) _).alloc (by simp) _
  case round =>
    obtain ⟨j, hj, rfl, hs, hSA, hSB, hbl⟩ := hrel
    have HR : Hid (shareN A B j = false ∧ SetBlk wr w.heap.size A ∧ SetBlk wr (w.heap.size + 1) B ∧ Below w.heap.size w wr) := ⟨hs, hSA, hSB, hbl⟩
    clear hs hSA hSB hbl
    by_cases hlt : j < 16
    · have m1 : (j : Int) < 16 := by omega
      have c0 := HR.out.2.1.cell (n := j) (by omega)
      have c1 := HR.out.2.2.1.cell (n := j) (by omega)
      rw [Nat.zero_add] at c0 c1
      have hsc := shareN_succ A B j
      rw [HR.out.1] at hsc
      have HSc : Hid (shareN A B (j + 1) = (false || (A.getD j false && B.getD j false))) := hsc
      clear hsc
      cases ha : A.getD j false
      · rw [ha] at c0
        go_wp2
        go_roundw
        case rel => exact ⟨j + 1, by omega, by go_num, by rw [HSc.out, ha]; rfl, HR.out.2⟩
        case measure => simp [intOf]; omega
      · rw [ha] at c0
        cases hb : B.getD j false
        · rw [hb] at c1
          go_wp2
          go_roundw
          case rel => exact ⟨j + 1, by omega, by go_num, by rw [HSc.out, ha, hb]; rfl, HR.out.2⟩
          case measure => simp [intOf]; omega
        · rw [hb] at c1
          have HT : Hid (DeskM.share A B = true) := share_true hlt ha hb
          go_wp2
          go_ret
          exact ⟨by rw [HT.out]; rfl, HR.out.2.2.2⟩
    · obtain rfl : j = 16 := by omega
      have HT : Hid (DeskM.share A B = false) := HR.out.1
      go_wp2
      go_ret
      exact ⟨by rw [HT.out]; rfl, HR.out.2.2.2⟩
section
variable (d : Option Tmp) (x y : Operand) (ty : TypeId) (ps : String) (af : Array Edge) (gd : Option (Nat × Bool)) (a : Act) (w : World) (K : Act → World → Prop) (Q : Exit → Act → World → Prop)
theorem wLdA : Oper.wp Tryz.prog ⟨d, .load 163 x, ty, ps, af, gd⟩ a w K Q = WOp ⟨d, .load 163 x, ty, ps, af, gd⟩ a w K Q := wop_eq _ _ _ _ _
theorem wStA : Oper.wp Tryz.prog ⟨d, .store 163 x y, ty, ps, af, gd⟩ a w K Q = WOp ⟨d, .store 163 x y, ty, ps, af, gd⟩ a w K Q := wop_eq _ _ _ _ _
theorem wLdG : Oper.wp Tryz.prog ⟨d, .load 165 x, ty, ps, af, gd⟩ a w K Q = WOp ⟨d, .load 165 x, ty, ps, af, gd⟩ a w K Q := wop_eq _ _ _ _ _
theorem wStG : Oper.wp Tryz.prog ⟨d, .store 165 x y, ty, ps, af, gd⟩ a w K Q = WOp ⟨d, .store 165 x y, ty, ps, af, gd⟩ a w K Q := wop_eq _ _ _ _ _
theorem wLdW : Oper.wp Tryz.prog ⟨d, .load 140 x, ty, ps, af, gd⟩ a w K Q = WOp ⟨d, .load 140 x, ty, ps, af, gd⟩ a w K Q := wop_eq _ _ _ _ _
theorem wStW : Oper.wp Tryz.prog ⟨d, .store 140 x y, ty, ps, af, gd⟩ a w K Q = WOp ⟨d, .store 140 x y, ty, ps, af, gd⟩ a w K Q := wop_eq _ _ _ _ _
end
attribute [local go_sem ↓] wLdA wStA wLdG wStG
theorem Tryz.sizeA : (Tryz.prog.info? 163).map (·.size) = some 34 := by kernel_rfl
theorem Tryz.sizeG : (Tryz.prog.info? 165).map (·.size) = some 36 := by kernel_rfl
theorem Tryz.sizeW : (Tryz.prog.info? 140).map (·.size) = some 74 := by kernel_rfl
theorem atC_len {a : AtM} (h : a.ok) : (atC a).length = 34 := by simp [atC, length_rdCells, h.1, h.2]
theorem knC_len {u : KnM} (h : u.a.ok) : (knC u).length = 36 := by simp [knC, atC_len h]
theorem atC_mem (a : AtM) {v : Value} (h : v ∈ atC a) : v.oneCell' = true := by
  simp only [atC, List.mem_cons, List.mem_append] at h
  rcases h with rfl | rfl | h | h
  · rfl
  · rfl
  · obtain ⟨k, _, rfl⟩ := List.mem_map.1 h; rfl
  · obtain ⟨k, _, rfl⟩ := List.mem_map.1 h; rfl
theorem atC_one (a : AtM) : (atC a).toArray.all (·.oneCell') = true := all_oneCell_toArray (fun _ hv => atC_mem a hv)
theorem knC_one (u : KnM) : (knC u).toArray.all (·.oneCell') = true := by
  refine all_oneCell_toArray (fun v hv => ?_)
  simp only [knC, List.mem_append, List.mem_cons, List.not_mem_nil, or_false] at hv
  rcases hv with h | rfl | rfl
  · exact atC_mem u.a h
  · rfl
  · rfl
def AtAt (w : World) (b o : Nat) (a : AtM) : Prop := w.rangeAt b o (atC a)
theorem AtAt.tick {w : World} {b o : Nat} {a : AtM} (h : AtAt w b o a) : w.cell? ⟨b, o, none⟩ = some (.int .i64 (a.ticket : Int)) := h 0 _ rfl
theorem AtAt.read {w : World} {b o : Nat} {a : AtM} (h : AtAt w b o a) (hk : a.ok) : w.rangeAt b (o + 2) (rdCells a.read) := fun j v hj => by
  have hj16 : j < 16 := by have := (List.getElem?_eq_some_iff.1 hj).1; rw [length_rdCells, hk.1] at this; exact this
  rw [Nat.add_assoc]
  refine h (2 + j) _ ?_
  rw [atC, show 2 + j = j + 1 + 1 by omega, List.getElem?_cons_succ, List.getElem?_cons_succ, List.getElem?_append_left (by rw [length_rdCells, hk.1]; exact hj16)]
  exact hj
theorem AtAt.wrote {w : World} {b o : Nat} {a : AtM} (h : AtAt w b o a) (hk : a.ok) : w.rangeAt b (o + 18) (rdCells a.wrote) := fun j v hj => by
  rw [Nat.add_assoc]
  refine h (18 + j) _ ?_
  rw [atC, show 18 + j = (16 + j) + 1 + 1 by omega, List.getElem?_cons_succ, List.getElem?_cons_succ, List.getElem?_append_right (by rw [length_rdCells, hk.1]; omega), length_rdCells, hk.1, Nat.add_sub_cancel_left]
  exact hj
def KnAt (w : World) (b o : Nat) (u : KnM) : Prop := w.rangeAt b o (knC u)
theorem KnAt.at {w : World} {b o : Nat} {u : KnM} (h : KnAt w b o u) : AtAt w b o u.a := fun j v hj => h j v (by rw [knC, List.getElem?_append_left (List.getElem?_eq_some_iff.1 hj).1]; exact hj)
theorem KnAt.num {w : World} {b o : Nat} {u : KnM} (h : KnAt w b o u) (hk : u.a.ok) : w.cell? ⟨b, o + 34, none⟩ = some (.int .i64 (u.number : Int)) := h 34 _ (by rw [knC, List.getElem?_append_right (by rw [atC_len hk]; omega), atC_len hk]; rfl)
theorem KnAt.miss {w : World} {b o : Nat} {u : KnM} (h : KnAt w b o u) (hk : u.a.ok) : w.cell? ⟨b, o + 35, none⟩ = some (.int .i64 (u.missed : Int)) := h 35 _ (by rw [knC, List.getElem?_append_right (by rw [atC_len hk]; omega), atC_len hk]; rfl)
def AtBlk (w : World) (b : Nat) (a : AtM) : Prop := w.heap[b]? = some (.cells (atC a).toArray 163 (0, 0))
theorem AtBlk.at {w : World} {b : Nat} {a : AtM} (h : AtBlk w b a) : AtAt w b 0 a := blk_rangeAt (pre := []) (post := []) (by simpa [AtBlk] using h) rfl
def KnBlk (w : World) (b : Nat) (u : KnM) : Prop := w.heap[b]? = some (.cells (knC u).toArray 165 (0, 0))
theorem KnBlk.at {w : World} {b : Nat} {u : KnM} (h : KnBlk w b u) : KnAt w b 0 u := blk_rangeAt (pre := []) (post := []) (by simpa [KnBlk] using h) rfl
theorem later_any (w : World) (ub : Nat) (u : KnM) (t : AtM) (hu : KnBlk w ub u) (hk : u.a.ok) :
    Calls Tryz.prog 120 #[.pointer (some ⟨ub, 0, none⟩), .agg (atC t).toArray] w fun e w' => GaveB (u.later t) w e w' := by
  have c0 := hu.at.num hk
  have hlt := blk_lt hu
  obtain ⟨ca, hca⟩ : ∃ ca, ca = (atC t).toArray := ⟨_, rfl⟩
  have c1 : ca[1]? = some (.int .i64 (t.beg : Int)) := by rw [hca]; rfl
  rw [← hca]
  clear hu hca
  rw [Nat.zero_add] at c0
  go_enter Tryz.func120, Tryz.ntmps120
  go_wp2
  go_region
  all_goals
    go_wp2
    go_ret
    exact ⟨by simp [KnM.later], ((Below.refl _ _).alloc (Nat.le_refl _) _).drew⟩
theorem eq16 (b0 b1 b2 b3 b4 b5 b6 b7 b8 b9 b10 b11 b12 b13 b14 b15 : Bool) : ∀ W, (Op.equalIn 10000 68 (.agg #[.bool b0, .bool b1, .bool b2, .bool b3, .bool b4, .bool b5, .bool b6, .bool b7, .bool b8, .bool b9, .bool b10, .bool b11, .bool b12, .bool b13, .bool b14, .bool b15]) (.agg #[.bool false, .bool false, .bool false, .bool false, .bool false, .bool false, .bool false, .bool false, .bool false, .bool false, .bool false, .bool false, .bool false, .bool false, .bool false, .bool false])).run Tryz.prog W = .ok (![b0, b1, b2, b3, b4, b5, b6, b7, b8, b9, b10, b11, b12, b13, b14, b15].any id) W := by
  cases b0
  · skip
    cases b1
    · skip
      cases b2
      · skip
        cases b3
        · skip
          cases b4
          · skip
            cases b5
            · skip
              cases b6
              · skip
                cases b7
                · skip
                  cases b8
                  · skip
                    cases b9
                    · skip
                      cases b10
                      · skip
                        cases b11
                        · skip
                          cases b12
                          · skip
                            cases b13
                            · skip
                              cases b14
                              · skip
                                cases b15
                                · skip
                                  intro W; kernel_rfl
                                · intro W; kernel_rfl
                              · intro W; kernel_rfl
                            · intro W; kernel_rfl
                          · intro W; kernel_rfl
                        · intro W; kernel_rfl
                      · intro W; kernel_rfl
                    · intro W; kernel_rfl
                  · intro W; kernel_rfl
                · intro W; kernel_rfl
              · intro W; kernel_rfl
            · intro W; kernel_rfl
          · intro W; kernel_rfl
        · intro W; kernel_rfl
      · intro W; kernel_rfl
    · intro W; kernel_rfl
  · intro W; kernel_rfl
theorem isEmpty_16 (w : World) (b o : Nat) (b0 b1 b2 b3 b4 b5 b6 b7 b8 b9 b10 b11 b12 b13 b14 b15 : Bool) (h : w.rangeAt b o (rdCells [b0, b1, b2, b3, b4, b5, b6, b7, b8, b9, b10, b11, b12, b13, b14, b15])) :
    Calls Tryz.prog 123 #[.pointer (some ⟨b, o, none⟩)] w fun e w' => e = .returned (.bool (![b0, b1, b2, b3, b4, b5, b6, b7, b8, b9, b10, b11, b12, b13, b14, b15].any id)) ∧ w' = w := by
  have c0 : w.cell? ⟨b, o, none⟩ = some (.bool b0) := h 0 _ rfl
  have c1 : w.cell? ⟨b, o + 1, none⟩ = some (.bool b1) := h 1 _ rfl
  have c2 : w.cell? ⟨b, o + 2, none⟩ = some (.bool b2) := h 2 _ rfl
  have c3 : w.cell? ⟨b, o + 3, none⟩ = some (.bool b3) := h 3 _ rfl
  have c4 : w.cell? ⟨b, o + 4, none⟩ = some (.bool b4) := h 4 _ rfl
  have c5 : w.cell? ⟨b, o + 5, none⟩ = some (.bool b5) := h 5 _ rfl
  have c6 : w.cell? ⟨b, o + 6, none⟩ = some (.bool b6) := h 6 _ rfl
  have c7 : w.cell? ⟨b, o + 7, none⟩ = some (.bool b7) := h 7 _ rfl
  have c8 : w.cell? ⟨b, o + 8, none⟩ = some (.bool b8) := h 8 _ rfl
  have c9 : w.cell? ⟨b, o + 9, none⟩ = some (.bool b9) := h 9 _ rfl
  have c10 : w.cell? ⟨b, o + 10, none⟩ = some (.bool b10) := h 10 _ rfl
  have c11 : w.cell? ⟨b, o + 11, none⟩ = some (.bool b11) := h 11 _ rfl
  have c12 : w.cell? ⟨b, o + 12, none⟩ = some (.bool b12) := h 12 _ rfl
  have c13 : w.cell? ⟨b, o + 13, none⟩ = some (.bool b13) := h 13 _ rfl
  have c14 : w.cell? ⟨b, o + 14, none⟩ = some (.bool b14) := h 14 _ rfl
  have c15 : w.cell? ⟨b, o + 15, none⟩ = some (.bool b15) := h 15 _ rfl
  have heq := eq16 b0 b1 b2 b3 b4 b5 b6 b7 b8 b9 b10 b11 b12 b13 b14 b15
  obtain ⟨r, hr⟩ : ∃ r, r = (![b0, b1, b2, b3, b4, b5, b6, b7, b8, b9, b10, b11, b12, b13, b14, b15].any id) := ⟨_, rfl⟩
  rw [← hr] at heq ⊢
  clear h hr
  go_enter Tryz.func123, Tryz.ntmps123
  go_wp2
  go_ret
  exact ⟨rfl, rfl⟩
theorem isEmpty_any (w : World) (b o : Nat) (l : List Bool) (hl : l.length = 16) (h : w.rangeAt b o (rdCells l)) :
    Calls Tryz.prog 123 #[.pointer (some ⟨b, o, none⟩)] w fun e w' => e = .returned (.bool (!l.any id)) ∧ w' = w := by
  match l, hl, h with
  | [b0, b1, b2, b3, b4, b5, b6, b7, b8, b9, b10, b11, b12, b13, b14, b15], _, h => exact isEmpty_16 w b o b0 b1 b2 b3 b4 b5 b6 b7 b8 b9 b10 b11 b12 b13 b14 b15 h
theorem missedFor_any (w : World) (ub : Nat) (u : KnM) (t : AtM) (hu : KnBlk w ub u) (hk : u.a.ok) (ht : t.ok) :
    Calls Tryz.prog 122 #[.pointer (some ⟨ub, 0, none⟩), .agg (atC t).toArray] w fun e w' => GaveB (u.missedFor t) w e w' := by
  have HU : Hid (KnBlk w ub u) := hu
  have hlt := blk_lt hu
  obtain ⟨ca, hca⟩ : ∃ ca, ca = (atC t).toArray := ⟨_, rfl⟩
  have HA : Hid (∀ n, AtBlk ((w.alloc (.cells ca 163)).drewN n) w.heap.size t) := fun n => by rw [hca]; exact heap_alloc_new _ _
  have c1 : ca[1]? = some (.int .i64 (t.beg : Int)) := by rw [hca]; rfl
  have c0 := hu.at.miss hk
  rw [Nat.zero_add] at c0
  rw [← hca]
  clear hu hca
  by_cases hm : u.missed = 0
  · have HT : Hid (u.missedFor t = false) := by show _ = _; simp [KnM.missedFor, hm]
    have m0 : (u.missed : Int) = 0 := by omega
    rw [m0] at c0
    go_enter Tryz.func122, Tryz.ntmps122
    go_wp2
    go_ret
    exact ⟨by rw [HT.out]; rfl, (Below.refl _ _).alloc (Nat.le_refl _) _⟩
  · have HT : Hid (u.missedFor t = (t.wrote.any id || decide (u.missed ≤ t.beg))) := by show _ = _; simp [KnM.missedFor, hm]
    have m0 : ¬ (u.missed : Int) = 0 := by omega
    obtain ⟨bw, hbw⟩ : ∃ bw, bw = t.wrote.any id := ⟨_, rfl⟩
    have HBW : Hid (bw = t.wrote.any id) := hbw
    rw [← hbw] at HT
    clear hbw
    have hend : Hid (∀ r, r = (bw || decide (u.missed ≤ t.beg)) → ∀ n, GaveB (u.missedFor t) w (.returned (.bool r)) ((w.alloc (.cells ca 163)).drewN n)) := fun r hr n => ⟨by rw [HT.out, hr], below_drewN ((Below.refl _ _).alloc (Nat.le_refl _) _) n⟩
    have HE : Hid (∀ n, Calls Tryz.prog 123 #[.pointer (some ⟨w.heap.size, 18, none⟩)] ((w.alloc (.cells ca 163)).drewN n) fun e w' => e = .returned (.bool (!bw)) ∧ w' = (w.alloc (.cells ca 163)).drewN n) := fun n => by
      have := isEmpty_any _ w.heap.size (0 + 18) t.wrote ht.2 ((HA.out n).at.wrote ht)
      rw [← HBW.out] at this
      exact this
    cases bw
    · rw [Bool.not_false] at HE
      by_cases hle : u.missed ≤ t.beg
      all_goals
        have hle' : (u.missed : Int) ≤ (t.beg : Int) ↔ u.missed ≤ t.beg := by omega
        simp only [hle, iff_true, iff_false] at hle'
        go_enter Tryz.func122, Tryz.ntmps122
        go_wp2_with fail
        go_quiet ((go_at_call 123; exact Calls.quiet_of_same (HE.out _)))
        go_wp2
        go_ret
        exact hend.out _ (by simp [hle]) _
    · rw [Bool.not_true] at HE
      go_enter Tryz.func122, Tryz.ntmps122
      go_wp2_with fail
      go_quiet ((go_at_call 123; exact Calls.quiet_of_same (HE.out _)))
      go_wp2
      go_ret
      exact hend.out _ (by simp) _
end Go.Proofs.YtlbmcdoldnajoaaGreat
