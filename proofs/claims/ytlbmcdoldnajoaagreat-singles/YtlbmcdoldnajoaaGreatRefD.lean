import Derived.Test.YtlbmcdoldnajoaaGreatEngB
import Derived.Test.YtlbmcdoldnajoaaGreatDeskM
import Derived.Test.YtlbmcdoldnajoaaGreatRanKit
set_option maxRecDepth 100000
set_option maxHeartbeats 400000
namespace Go.Proofs.YtlbmcdoldnajoaaGreat
open Go.RowKit
theorem flat_get (n : Nat) : ∀ (L : List (List Value)) (_ : ∀ x ∈ L, x.length = n) (i k : Nat) (_ : k < n), L.flatten[i * n + k]? = (L[i]?).bind (·[k]?)
  | [], _, i, k, _ => by simp
  | x :: r, h, 0, k, hk => by
    have hx := h x (by simp)
    rw [List.flatten_cons, List.getElem?_append_left (by omega)]
    simp
  | x :: r, h, i + 1, k, hk => by
    have hx := h x (by simp)
    rw [List.flatten_cons, List.getElem?_append_right (by rw [hx, Nat.add_mul]; omega), hx, show (i + 1) * n + k - n = i * n + k by rw [Nat.add_mul]; omega, flat_get n r (fun y hy => h y (by simp [hy])) i k hk]
    simp
theorem flat_len (n : Nat) : ∀ (L : List (List Value)) (_ : ∀ x ∈ L, x.length = n), L.flatten.length = L.length * n
  | [], _ => by simp
  | x :: r, h => by
    rw [List.flatten_cons, List.length_append, h x (by simp), flat_len n r (fun y hy => h y (by simp [hy])), List.length_cons, Nat.add_mul]; omega
def ptrV (b : Nat) : Value := .pointer (some ⟨b, 0, none⟩)
def natV (n : Nat) : Value := .int .i64 (n : Int)
def nilV : Value := .slice none 0 0
def attC (a : AttM) : List Value := [natV a.ticket, natV a.beg, natV a.done]
def attCells (l : List AttM) : List Value := (l.map attC).flatten
structure GV where
  rv : Value
  wv : Value
  pv : Value
  pl : List (Int × Int)
def gv0 : GV := ⟨nilV, nilV, nilV, []⟩
def goodC (g : GoodM) (v : GV) : List Value := [natV g.ticket, natV g.beg, v.rv, v.wv, v.pv]
def goodCells (gs : List GoodM) (vs : List GV) : List Value := (List.zipWith goodC gs vs).flatten
def jobC (j : JobM) (s t : Value) : Array Value := #[s, .int .i64 j.state, t, natV j.tries, natV j.failed, .bool j.urgent]
structure RV where
  jv : Value
  qv : Value
  uv : Value
  wv : Value
  gv : Value
  js : List Nat
  sv : List Value
  tv : List Value
  gs : List GV
structure RD (F : Nat → Prop) (w : World) (rb : Nat) (d : DeskM) (v : RV) : Prop where
  inF : F rb
  blk : w.heap[rb]? = some (.cells #[natV d.c.workers, natV d.c.queue, natV d.c.fuel, natV d.c.patience, v.jv, v.qv, v.uv, v.wv, v.gv] 65 (0, 0))
  jobs : w.ownsRow 0 131 1 v.jv d.jobs.length (v.js.map ptrV)
  jF : ∀ k, v.jv.ownBlock = some k → F k
  queue : w.ownsRow 0 3 1 v.qv d.queue.length (d.queue.map natV)
  qF : ∀ k, v.qv.ownBlock = some k → F k
  urg : w.ownsRow 0 3 1 v.uv d.urgent.length (d.urgent.map natV)
  uF : ∀ k, v.uv.ownBlock = some k → F k
  qu : ∀ k, v.qv.ownBlock = some k → v.uv.ownBlock ≠ some k
  work : w.ownsRow 0 136 3 v.wv d.workers.length (attCells d.workers)
  wF : ∀ k, v.wv.ownBlock = some k → F k
  goods : w.ownsRow 0 156 5 v.gv d.goods.length (goodCells d.goods v.gs)
  gF : ∀ k, v.gv.ownBlock = some k → F k
  jb : ∀ i, i < d.jobs.length → F (v.js.getD i 0) ∧ w.heap[v.js.getD i 0]? = some (.cells (jobC (d.jobs.getD i jobM0) (v.sv.getD i nilV) (v.tv.getD i nilV)) 133 (0, 0))
  nd : ∀ i k, i < d.jobs.length → k < d.jobs.length → v.js.getD i 0 = v.js.getD k 0 → i = k
  st : ∀ i, i < d.jobs.length → w.ownsRow 0 95 4 (v.sv.getD i nilV) (d.jobs.getD i jobM0).steps.length (stCells (d.jobs.getD i jobM0).steps) ∧ ∀ k, (v.sv.getD i nilV).ownBlock = some k → F k
  told : ∀ i, i < d.jobs.length → w.ownsRow 0 3 1 (v.tv.getD i nilV) (d.jobs.getD i jobM0).told.length ((d.jobs.getD i jobM0).told.map (Value.int .i64)) ∧ ∀ k, (v.tv.getD i nilV).ownBlock = some k → F k ∧ v.qv.ownBlock ≠ some k ∧ v.uv.ownBlock ≠ some k
  sl : v.sv.length = d.jobs.length
  tl : v.tv.length = d.jobs.length
  gl : v.gs.length = d.goods.length
  gb : ∀ i, i < d.goods.length → w.ownsRow 0 4 1 (v.gs.getD i gv0).rv 16 ((d.goods.getD i good0).read.map Value.bool) ∧ w.ownsRow 0 4 1 (v.gs.getD i gv0).wv 16 ((DeskM.wroteL (d.goods.getD i good0).puts).map Value.bool) ∧
    w.ownsRow 0 58 2 (v.gs.getD i gv0).pv (v.gs.getD i gv0).pl.length (prCells (v.gs.getD i gv0).pl) ∧ (v.gs.getD i gv0).pl.length ≤ 1000 ∧ lastP (v.gs.getD i gv0).pl = (d.goods.getD i good0).puts ∧
    ∀ k, ((v.gs.getD i gv0).rv.ownBlock = some k ∨ (v.gs.getD i gv0).wv.ownBlock = some k ∨ (v.gs.getD i gv0).pv.ownBlock = some k) → F k
theorem RD.fr {F R : Nat → Prop} {w w' : World} {rb : Nat} {d : DeskM} {v : RV} (h : RD F w rb d v) (hf : Fr R w w') (hR : ∀ k, F k → ¬ R k) : RD F w' rb d v where
  inF := h.inF
  blk := hf.blk h.blk (hR _ h.inF)
  jobs := owns_fr h.jobs hf (fun k hk => hR k (h.jF k hk))
  jF := h.jF
  queue := owns_fr h.queue hf (fun k hk => hR k (h.qF k hk))
  qF := h.qF
  urg := owns_fr h.urg hf (fun k hk => hR k (h.uF k hk))
  uF := h.uF
  qu := h.qu
  work := owns_fr h.work hf (fun k hk => hR k (h.wF k hk))
  wF := h.wF
  goods := owns_fr h.goods hf (fun k hk => hR k (h.gF k hk))
  gF := h.gF
  jb := fun i hi => ⟨(h.jb i hi).1, hf.blk (h.jb i hi).2 (hR _ (h.jb i hi).1)⟩
  nd := h.nd
  st := fun i hi => ⟨owns_fr (h.st i hi).1 hf (fun k hk => hR k ((h.st i hi).2 k hk)), (h.st i hi).2⟩
  told := fun i hi => ⟨owns_fr (h.told i hi).1 hf (fun k hk => hR k ((h.told i hi).2 k hk).1), (h.told i hi).2⟩
  sl := h.sl
  tl := h.tl
  gl := h.gl
  gb := fun i hi => by
    obtain ⟨h1, h2, h3, h4, h5, h6⟩ := h.gb i hi
    exact ⟨owns_fr h1 hf (fun k hk => hR k (h6 k (Or.inl hk))), owns_fr h2 hf (fun k hk => hR k (h6 k (Or.inr (Or.inl hk)))), owns_fr h3 hf (fun k hk => hR k (h6 k (Or.inr (Or.inr hk)))), h4, h5, h6⟩
theorem RD.below {F : Nat → Prop} {w w' : World} {rb : Nat} {d : DeskM} {v : RV} (h : RD F w rb d v) (hb : Below w.heap.size w w') : RD F w' rb d v := h.fr (R := fun _ => False) (Fr.of_below hb) (fun _ _ hs => hs)
theorem RD.mono {F F' : Nat → Prop} {w : World} {rb : Nat} {d : DeskM} {v : RV} (h : RD F w rb d v) (hF : ∀ k, k < w.heap.size → F k → F' k) : RD F' w rb d v := by
  have hw : ∀ {e : TypeId} {s : Nat} {u : Value} {n : Nat} {xs : List Value}, w.ownsRow 0 e s u n xs → (∀ k, u.ownBlock = some k → F k) → ∀ k, u.ownBlock = some k → F' k := fun ho hk k e => hF k (owns_lt ho e).2 (hk k e)
  exact { h with
    inF := hF _ (blk_lt h.blk) h.inF
    jF := hw h.jobs h.jF
    qF := hw h.queue h.qF
    uF := hw h.urg h.uF
    wF := hw h.work h.wF
    gF := hw h.goods h.gF
    jb := fun i hi => ⟨hF _ (blk_lt (h.jb i hi).2) (h.jb i hi).1, (h.jb i hi).2⟩
    st := fun i hi => ⟨(h.st i hi).1, hw (h.st i hi).1 (h.st i hi).2⟩
    told := fun i hi => ⟨(h.told i hi).1, fun k hk => ⟨hF k (owns_lt (h.told i hi).1 hk).2 ((h.told i hi).2 k hk).1, ((h.told i hi).2 k hk).2⟩⟩
    gb := fun i hi => by
      obtain ⟨h1, h2, h3, h4, h5, h6⟩ := h.gb i hi
      refine ⟨h1, h2, h3, h4, h5, fun k hk => ?_⟩
      rcases hk with hk | hk | hk
      · exact hF k (owns_lt h1 hk).2 (h6 k (Or.inl hk))
      · exact hF k (owns_lt h2 hk).2 (h6 k (Or.inr (Or.inl hk)))
      · exact hF k (owns_lt h3 hk).2 (h6 k (Or.inr (Or.inr hk))) }
theorem RD.jsGet {F : Nat → Prop} {w : World} {rb : Nat} {d : DeskM} {v : RV} (h : RD F w rb d v) {i : Nat} (hi : i < d.jobs.length) : (v.js.map ptrV)[i]? = some (ptrV (v.js.getD i 0)) := by
  have hl : v.js.length = d.jobs.length := by simpa using h.jobs.1
  simp [List.getD, hl, hi]
theorem owns_pos {w : World} {B : Nat} {e : TypeId} {s : Nat} {v : Value} {n : Nat} {xs : List Value} (h : w.ownsRow B e s v n xs) (hn : 0 < n) : ∃ g cap, v = .slice (some ⟨g, 0, none⟩) n cap ∧ g < w.heap.size ∧ ∀ j, j < n * s → w.cell? ⟨g, j, none⟩ = xs[j]? := by
  have hc := h
  rcases h.2 with ⟨rfl, h0⟩ | ⟨g, cap, cur, rfl, _, hh, _⟩
  · omega
  · exact ⟨g, cap, rfl, blk_lt hh, fun j hj => hc.cellAt j hj⟩
theorem make_any {t e : TypeId} {z : Value} {size bytes : Nat} (ht : Tryz.prog.underlying t = some (.slice e)) (hi : (Tryz.prog.info? e).map (fun i => (i.zero, i.size, i.bytes)) = some (some z, size, bytes)) (n : Nat) (hn : n ≤ 1000) (hb : bytes ≤ 1000) (W : World) :
    (Instr.makeSlice t (.int .i64 (n : Int)) (.int .i64 (n : Int))).run Tryz.prog W = .ok (.slice (some ⟨W.heap.size, 0, none⟩) n n) (W.alloc (.cells (madeCells z.cells (n * size)) e)) := by
  obtain ⟨i0, h1, h2, h3, h4⟩ := info_parts hi
  have : (i0.bytes : Int) * (n : Int) ≤ 1000 * 1000 := Int.mul_le_mul (by omega) (by omega) (by omega) (by omega)
  rw [run_make W t e i0 z ht h1 h2 .i64 .i64 n n (by omega) (Int.le_refl _) (by omega) (by omega)]
  simp [h3]
theorem madeCells_rep (z : List Value) (n s : Nat) (hs : z.length = s) (h0 : 0 < s) : (madeCells z.toArray (n * s)).toList = (List.replicate n z).flatten := by
  apply List.ext_getElem?
  intro i
  have hfl := flat_len s (List.replicate n z) (fun x hx => by rw [List.eq_of_mem_replicate hx]; exact hs)
  rw [List.length_replicate] at hfl
  by_cases hi : i < n * s
  · have hq : i / s < n := Nat.div_lt_of_lt_mul (by rw [Nat.mul_comm]; exact hi)
    have hm : i % s < s := Nat.mod_lt _ h0
    have e : i = i / s * s + i % s := by rw [Nat.mul_comm]; exact (Nat.div_add_mod i s).symm
    rw [show (List.replicate n z).flatten[i]? = (List.replicate n z).flatten[i / s * s + i % s]? by rw [← e], flat_get s _ (fun x hx => by rw [List.eq_of_mem_replicate hx]; exact hs) _ _ hm]
    simp [madeCells, hi, hq, hs, hm]
  · rw [List.getElem?_eq_none (by simp [madeCells]; omega), List.getElem?_eq_none (by omega)]
theorem refMay_any (a b c d : Int) (w : World) : Calls Tryz.prog 22 #[.agg #[.int .i64 a, .int .i64 b, .int .i64 c, .int .i64 d]] w fun e w' => e = .returned (.bool (confB a b c d)) ∧ Below w.heap.size w w' := by
  go_enter Tryz.func22, Tryz.ntmps22
  go_wp2
  all_goals
    go_ret
    refine ⟨?_, (Below.refl _ _).alloc (Nat.le_refl _) _⟩
    congr 2
    simp [confB, *]
    try omega
theorem Tryz.infoAtt : (Tryz.prog.info? 136).map (fun i => (i.zero, i.size, i.bytes)) = some (some (.agg #[.int .i64 0, .int .i64 0, .int .i64 0]), 3, 24) := by kernel_rfl
def RNew (c : ConfM) (w : World) (e : Ending) (w' : World) : Prop := ∃ rb v, e = .returned (.tuple #[ptrV rb, .int .i64 0]) ∧ RD (fun k => w.heap.size ≤ k) w' rb (desk0 c) v ∧ Below w.heap.size w w'
theorem rd_new (c : ConfM) (w W : World) (a rb : Nat) (ha : w.heap.size ≤ a) (hr : w.heap.size ≤ rb)
    (h1 : W.heap[rb]? = some (.cells #[natV c.workers, natV c.queue, natV c.fuel, natV c.patience, nilV, nilV, nilV, .slice (some ⟨a, 0, none⟩) c.workers c.workers, nilV] 65 (0, 0)))
    (h2 : W.heap[a]? = some (.cells (madeCells (Value.agg #[.int .i64 0, .int .i64 0, .int .i64 0]).cells (c.workers * 3)) 136 (0, 0))) (hc : c.workers ≤ 1000) :
    RD (fun k => w.heap.size ≤ k) W rb (desk0 c) ⟨nilV, nilV, nilV, .slice (some ⟨a, 0, none⟩) c.workers c.workers, nilV, [], [], [], []⟩ where
  inF := hr
  blk := h1
  jobs := World.ownsRow_nil _ _ _ _
  jF := fun k hk => by cases hk
  queue := World.ownsRow_nil _ _ _ _
  qF := fun k hk => by cases hk
  urg := World.ownsRow_nil _ _ _ _
  uF := fun k hk => by cases hk
  qu := fun k hk => by cases hk
  work := by
    have e : attCells (desk0 c).workers = (madeCells (Value.agg #[.int .i64 0, .int .i64 0, .int .i64 0]).cells (c.workers * 3)).toList := by
      rw [show (Value.agg #[.int .i64 0, .int .i64 0, .int .i64 0]).cells = [Value.int .i64 0, .int .i64 0, .int .i64 0].toArray from rfl, madeCells_rep _ _ 3 rfl (by decide)]
      simp [attCells, desk0, attC, att0, natV]
    have hl : (attCells (desk0 c).workers).length = c.workers * 3 := by rw [e]; simp [madeCells]
    refine ⟨by rw [hl]; simp [desk0], Or.inr ⟨a, c.workers, _, by simp [desk0], Nat.zero_le _, h2, by simp [desk0], by unfold maxLen; omega, by simp [madeCells], ?_⟩⟩
    rw [← e, show (desk0 c).workers.length * 3 = (attCells (desk0 c).workers).length by rw [hl]; simp [desk0], List.take_length]
  wF := fun k hk => by injection hk with hk; have hk : a = k := hk; show w.heap.size ≤ k; omega
  goods := World.ownsRow_nil _ _ _ _
  gF := fun k hk => by cases hk
  jb := fun i hi => absurd hi (Nat.not_lt_zero _)
  nd := fun i _ hi => absurd hi (Nat.not_lt_zero _)
  st := fun i hi => absurd hi (Nat.not_lt_zero _)
  told := fun i hi => absurd hi (Nat.not_lt_zero _)
  sl := rfl
  tl := rfl
  gl := rfl
  gb := fun i hi => absurd hi (Nat.not_lt_zero _)
theorem refNew_ok (cf : ConfM) (w : World) (hc : confB cf.workers cf.queue cf.fuel cf.patience = true) :
    Calls Tryz.prog 12 #[.agg #[.int .i64 (cf.workers : Int), .int .i64 (cf.queue : Int), .int .i64 (cf.fuel : Int), .int .i64 (cf.patience : Int)]] w fun e w' => RNew cf w e w' := by
  obtain ⟨n, b, c, d⟩ := cf
  simp only at hc ⊢
  go_enter Tryz.func12, Tryz.ntmps12
  go_wp2_with fail
  refine (refMay_any n b c d _).mono ?_
  rintro e W1 ⟨rfl, hb⟩
  rw [hc]
  have hobj : W1.heap[w.heap.size]? = some (.cells #[.int .i64 (n : Int), .int .i64 (b : Int), .int .i64 (c : Int), .int .i64 (d : Int)] 32 (0, 0)) := (hb.block _ (by simp)).trans (heap_alloc_new w _)
  have o0 : W1.cell? ⟨w.heap.size, 0, none⟩ = some (.int .i64 (n : Int)) := by rw [blk_cell hobj]; rfl
  have o1 : W1.cell? ⟨w.heap.size, 1, none⟩ = some (.int .i64 (b : Int)) := by rw [blk_cell hobj]; rfl
  have o2 : W1.cell? ⟨w.heap.size, 2, none⟩ = some (.int .i64 (c : Int)) := by rw [blk_cell hobj]; rfl
  have o3 : W1.cell? ⟨w.heap.size, 3, none⟩ = some (.int .i64 (d : Int)) := by rw [blk_cell hobj]; rfl
  have hl := blk_lt hobj
  have hn : n ≤ 1000 := by simp [confB] at hc; omega
  have hmk := make_any Tryz.underlying62 Tryz.infoAtt n hn (by decide)
  obtain ⟨mc, hmc⟩ : ∃ mc, mc = madeCells (Value.agg #[.int .i64 0, .int .i64 0, .int .i64 0]).cells (n * 3) := ⟨_, rfl⟩
  rw [← hmc] at hmk
  have HC : Hid (mc = madeCells (Value.agg #[.int .i64 0, .int .i64 0, .int .i64 0]).cells (n * 3)) := hmc
  have HB : Hid (Below w.heap.size w W1) := ((Below.refl _ _).alloc (Nat.le_refl _) _).trans (hb.mono (by simp))
  clear hobj hb hc hmc
  go_wp2
  go_region
  go_wp2
  refine bodyPost_ret (v := .tuple #[ptrV (W1.heap.size + 1), .int .i64 0]) (by simp [results, Tryz.results12, go_sem, ptrV]) rfl ?_
  refine ⟨W1.heap.size + 1, ⟨nilV, nilV, nilV, .slice (some ⟨W1.heap.size, 0, none⟩) n n, nilV, [], [], [], []⟩, rfl, ?_, ((HB.out.alloc (Nat.le_of_lt hl) _).alloc (by simp; omega) _).drew⟩
  exact rd_new ⟨n, b, c, d⟩ w _ W1.heap.size (W1.heap.size + 1) (by omega) (by omega) (new1E W1 (.cells mc 136) _) ((new0E W1 (.cells mc 136) _).trans (by rw [HC.out])) hn
theorem refNew_bad (a b c d : Int) (w : World) (hc : confB a b c d = false) :
    Calls Tryz.prog 12 #[.agg #[.int .i64 a, .int .i64 b, .int .i64 c, .int .i64 d]] w fun e w' => e = .returned (.tuple #[.pointer none, .int .i64 4]) ∧ Below w.heap.size w w' := by
  go_enter Tryz.func12, Tryz.ntmps12
  go_wp2_with fail
  refine (refMay_any a b c d _).mono ?_
  rintro e W1 ⟨rfl, hb⟩
  rw [hc]
  have HB : Hid (Below w.heap.size w W1) := ((Below.refl _ _).alloc (Nat.le_refl _) _).trans (hb.mono (by simp))
  clear hb
  go_wp2
  exact bodyPost_ret (v := .tuple #[.pointer none, .int .i64 4]) (by simp [results, Tryz.results12, go_sem]) rfl ⟨rfl, HB.out⟩
def RPolled (d : DeskM) (n : Int) (w : World) (e : Ending) (w' : World) : Prop :=
  ∃ tv, e = .returned (.tuple #[.agg #[.int .i64 (d.poll n).1, tv, .int .i64 (d.poll n).2.2.1], .int .i64 (d.poll n).2.2.2]) ∧ IntsV w' tv (d.poll n).2.1 ∧ Below w.heap.size w w'
theorem poll_no {d : DeskM} {n : Int} (h : ¬ (1 ≤ n ∧ n ≤ d.jobs.length)) : d.poll n = (0, [], 0, 8) := by
  have : d.ticketB n = false := by simp [DeskM.ticketB]; omega
  rw [DeskM.poll, this]; rfl
theorem poll_yes {d : DeskM} {i : Nat} (h : i < d.jobs.length) : d.poll ((i : Int) + 1) = ((d.jobs.getD i jobM0).state, (d.jobs.getD i jobM0).told, ((d.jobs.getD i jobM0).tries : Int), 0) := by
  have e : d.ticketB ((i : Int) + 1) = true := by simp [DeskM.ticketB]; omega
  have e2 : d.job ((i : Int) + 1).toNat = d.jobs.getD i jobM0 := by rw [DeskM.job, show ((i : Int) + 1).toNat - 1 = i by omega]
  rw [DeskM.poll, e, e2]; rfl
theorem refPoll_any (F : Nat → Prop) (w : World) (rb : Nat) (d : DeskM) (v : RV) (n : Int) (h : RD F w rb d v) (hl : d.jobs.length ≤ 1000000000000) (ht : ∀ i, i < d.jobs.length → (d.jobs.getD i jobM0).told.length ≤ 1000) :
    Calls Tryz.prog 42 #[ptrV rb, .int .i64 n] w fun e w' => RPolled d n w e w' := by
  have H : Hid (RD F w rb d v) := h
  have HT : Hid (∀ i, i < d.jobs.length → (d.jobs.getD i jobM0).told.length ≤ 1000) := ht
  have hrb := blk_lt h.blk
  obtain ⟨ja, jc, hj⟩ := owns_form h.jobs
  have c4 : w.cell? ⟨rb, 4, none⟩ = some (.slice ja d.jobs.length jc) := by rw [blk_cell h.blk, ← hj]; rfl
  obtain ⟨N, hN⟩ : ∃ N, N = d.jobs.length := ⟨_, rfl⟩
  have HN : Hid (N = d.jobs.length) := hN
  rw [← hN] at c4 hl
  clear hN ht
  unfold ptrV
  by_cases hin : 1 ≤ n ∧ n ≤ N
  · obtain ⟨i, hni⟩ : ∃ i : Nat, n = (i : Int) + 1 := ⟨(n - 1).toNat, by omega⟩
    have hi : i < d.jobs.length := by rw [← HN.out]; omega
    have hg := H.out.jsGet hi
    obtain ⟨g, cap, hv, hgl, hcell⟩ := owns_pos h.jobs (by omega)
    rw [hj] at hv
    injection hv with h1 h2 h3
    subst h1 h3
    have cj := (hcell i (by omega)).trans hg
    obtain ⟨k1, k2⟩ := H.out.jb i hi
    obtain ⟨t1, t2⟩ := H.out.told i hi
    have htl := HT.out i hi
    have HP : Hid (d.poll n = ((d.jobs.getD i jobM0).state, (d.jobs.getD i jobM0).told, ((d.jobs.getD i jobM0).tries : Int), 0)) := by rw [hni]; exact poll_yes hi
    generalize v.js.getD i 0 = jb at cj k2
    generalize v.tv.getD i nilV = tv at k2 t1
    generalize d.jobs.getD i jobM0 = jm at k2 t1 htl HP
    obtain ⟨ta, tc, rfl⟩ := owns_form t1
    have e1 : w.cell? ⟨jb, 1, none⟩ = some (.int .i64 jm.state) := by rw [blk_cell k2]; rfl
    have e2 : w.cell? ⟨jb, 2, none⟩ = some (.slice ta jm.told.length tc) := by rw [blk_cell k2]; rfl
    have e3 : w.cell? ⟨jb, 3, none⟩ = some (.int .i64 (jm.tries : Int)) := by rw [blk_cell k2]; rfl
    have HV : Hid (IntsV w (.slice ta jm.told.length tc) jm.told) := intsV_own t1 (by omega)
    have hw : IntKind.i64.wrap (n - 1) = (i : Int) := by rw [IntKind.wrap_i64]; omega
    have m0 : ¬ n < 1 := by omega
    have m1 : ¬ ((N : Int) < n) := by omega
    have m2 : (i : Int) < (N : Int) := by omega
    unfold ptrV at cj
    have hjbl := blk_lt k2
    clear k1 k2 t1 t2 h hcell hg hi hin hni h2
    go_enter Tryz.func42, Tryz.ntmps42
    go_wp2
    go_region
    all_goals
      go_wp2
      refine bodyPost_ret (v := .tuple #[.agg #[.int .i64 jm.state, .slice ta jm.told.length tc, .int .i64 (jm.tries : Int)], .int .i64 0]) (by simp [results, Tryz.results42, go_sem]) rfl ?_
      exact ⟨.slice ta jm.told.length tc, by rw [HP.out], by rw [HP.out]; exact (HV.out.below ((Below.refl _ _).alloc (Nat.le_refl _) _)).below (Below.refl _ _).drew, ((Below.refl _ _).alloc (Nat.le_refl _) _).drew⟩
  · have hp := poll_no (d := d) (n := n) (by rw [← HN.out]; exact hin)
    have hin' : n < 1 ∨ (¬ n < 1 ∧ (N : Int) < n) := by omega
    clear hin h
    have HP : Hid (d.poll n = (0, [], 0, 8)) := hp
    clear hp
    rcases hin' with q | ⟨q, q2⟩
    all_goals
      go_enter Tryz.func42, Tryz.ntmps42
      go_wp2
      refine bodyPost_ret (v := .tuple #[.agg #[.int .i64 0, .slice none 0 0, .int .i64 0], .int .i64 8]) (by simp [results, Tryz.results42, go_sem]) rfl ?_
      exact ⟨.slice none 0 0, by rw [HP.out], by rw [HP.out]; exact ⟨_, _, rfl, Nat.zero_le _, Or.inl rfl⟩, (Below.refl _ _).alloc (Nat.le_refl _) _⟩
theorem acc_keyR {f : Int → Int} {j : Nat} {q : Int × Int} (h : q ∈ accL f j) : q.1 < j ∧ 0 ≤ q.1 := by
  obtain ⟨k, hk, he⟩ := List.mem_filterMap.1 h
  split at he
  · injection he with he; subst he; have := List.mem_range.1 hk; simp; omega
  · cases he
theorem vIn_accR (f : Int → Int) (k : Nat) : ∀ j : Nat, vIn (accL f j) (k : Int) = if k < j ∧ 0 ≤ f k then f k else -1
  | 0 => by simp [accL, vIn]
  | j + 1 => by
    rw [accL_succ]
    by_cases hz : 0 ≤ f j
    · rw [if_pos hz, vIn_snoc _ _ _ (fun q hq => by have := (acc_keyR hq).1; simp; omega), vIn_accR f k j]
      by_cases e : k = j
      · subst e; simp [hz]
      · rw [if_neg (by simp; omega)]
        by_cases h2 : 0 ≤ f k
        · by_cases h3 : k < j
          · rw [if_pos ⟨h3, h2⟩, if_pos ⟨by omega, h2⟩]
          · rw [if_neg (fun h => h3 h.1), if_neg (fun h => h3 (by omega))]
        · rw [if_neg (fun h => h2 h.2), if_neg (fun h => h2 h.2)]
    · rw [if_neg hz, List.append_nil, vIn_accR f k j]
      by_cases h2 : 0 ≤ f k
      · by_cases h3 : k < j
        · rw [if_pos ⟨h3, h2⟩, if_pos ⟨by omega, h2⟩]
        · by_cases e : k = j
          · subst e; exact absurd h2 hz
          · rw [if_neg (fun h => h3 h.1), if_neg (fun h => h3 (by omega))]
      · rw [if_neg (fun h => h2 h.2), if_neg (fun h => h2 h.2)]
theorem accL_congrR {f g : Int → Int} : ∀ j : Nat, (∀ k : Nat, k < j → f k = g k ∨ (f k < 0 ∧ g k < 0)) → accL f j = accL g j
  | 0, _ => rfl
  | j + 1, h => by
    rw [accL_succ, accL_succ, accL_congrR j (fun k hk => h k (by omega))]
    rcases h j (by omega) with e | ⟨h1, h2⟩
    · rw [e]
    · rw [if_neg (by omega), if_neg (by omega)]
theorem listOf_congrR {f g : Int → Int} (h : ∀ k : Nat, k < 16 → f k = g k ∨ (f k < 0 ∧ g k < 0)) : listOf f = listOf g := accL_congrR 16 h
theorem listOf_see (f : Int → Int) (p : Int → Option Int) : listOf (see (vIn (listOf f)) p) = listOf (see f p) := by
  refine listOf_congrR (fun k hk => ?_)
  unfold see
  cases p k with
  | some v => exact Or.inl rfl
  | none =>
    show vIn (listOf f) k = f k ∨ (vIn (listOf f) k < 0 ∧ f k < 0)
    rw [listOf_acc, vIn_accR]
    by_cases h : 0 ≤ f k
    · rw [if_pos ⟨hk, h⟩]; exact Or.inl rfl
    · rw [if_neg (fun q => h q.2)]; exact Or.inr ⟨by decide, by omega⟩
theorem zip_len5 : ∀ (a : List GoodM) (b : List GV), ∀ x ∈ List.zipWith goodC a b, x.length = 5
  | [], _, x, h => by simp at h
  | _ :: _, [], x, h => by simp at h
  | a :: r, b :: s, x, h => by
    rw [List.zipWith_cons_cons, List.mem_cons] at h
    rcases h with rfl | h
    · rfl
    · exact zip_len5 r s x h
theorem goodCells_at {gs : List GoodM} {vs : List GV} (hl : vs.length = gs.length) {i : Nat} (hi : i < gs.length) {k : Nat} (hk : k < 5) : (goodCells gs vs)[i * 5 + k]? = (goodC (gs.getD i good0) (vs.getD i gv0))[k]? := by
  rw [goodCells, flat_get 5 _ (zip_len5 _ _) i k hk]
  simp [List.getD, hi, hl]
def MapRel (d : DeskM) (w : World) (j : Nat) (mv : Value) (wr : World) : Prop := wr.ownsRow w.heap.size 58 2 mv (listOf (mapF (d.goods.take j))).length (prCells (listOf (mapF (d.goods.take j)))) ∧ Below w.heap.size w wr
theorem mapRel_zero (d : DeskM) (w : World) : MapRel d w 0 nilV w := ⟨by rw [show listOf (mapF (d.goods.take 0)) = [] from rfl]; exact World.ownsRow_nil _ _ _ _, Below.refl _ _⟩
theorem listOf_len (f : Int → Int) : (listOf f).length ≤ 16 := by rw [listOf_acc]; exact accL_len _ _
theorem mapRel_next {d : DeskM} {w wr W : World} {j : Nat} {mv av : Value} {pl : List (Int × Int)} (h : MapRel d w j mv wr) (hj : j < d.goods.length) (hp : lastP pl = (d.goods.getD j good0).puts) (ha : Aftered (see (vIn (listOf (mapF (d.goods.take j)))) (lastP pl)) wr (.returned av) W) : MapRel d w (j + 1) av W := by
  obtain ⟨v, he, h1, h2⟩ := ha
  injection he with he
  subst he
  have e : listOf (mapF (d.goods.take (j + 1))) = listOf (see (vIn (listOf (mapF (d.goods.take j)))) (lastP pl)) := by
    rw [listOf_see, hp, List.take_succ_eq_append_getElem hj, mapF_snoc]
    simp [List.getD, hj]
  have := h.2.size
  exact ⟨by rw [e]; exact owns_base h1 this, h.2.trans (h2.mono this)⟩
theorem refMapAt_any (F : Nat → Prop) (w : World) (rb : Nat) (d : DeskM) (v : RV) (n : Nat) (h : RD F w rb d v) (hn : n ≤ d.goods.length) (hg : d.goods.length ≤ 1000000000000) :
    Calls Tryz.prog 69 #[ptrV rb, .int .i64 (n : Int)] w fun e w' => Aftered (mapF (d.goods.take n)) w e w' := by
  have H : Hid (RD F w rb d v) := h
  obtain ⟨ga, gc, hj⟩ := owns_form h.goods
  have c8 : w.cell? ⟨rb, 8, none⟩ = some (.slice ga d.goods.length gc) := by rw [blk_cell h.blk, ← hj]; rfl
  obtain ⟨N, hN⟩ : ∃ N, N = d.goods.length := ⟨_, rfl⟩
  have HN : Hid (N = d.goods.length) := hN
  have HV : Hid (v.gv = .slice ga d.goods.length gc) := hj
  rw [← hN] at c8 hn hg
  have hrb := blk_lt h.blk
  clear hN h hj
  unfold ptrV
  go_enter Tryz.func69, Tryz.ntmps69
  go_wp2
  go_loopw [5, 6] (fun m i wr => ∃ j : Nat, j ≤ n ∧ i = .int .i64 j ∧ MapRel d w j m wr) (fun _ i _ => n - (intOf i).toNat)
  case atStart => exact ⟨0, Nat.zero_le _, rfl, mapRel_zero d w⟩
  case round =>
    obtain ⟨j, hj, rfl, hm⟩ := hrel
    obtain ⟨ma, mc, rfl⟩ := owns_form hm.1
    have HM : Hid (MapRel d w j _ wr) := hm
    have d8 := (hm.2.cell (p := ⟨rb, 8, none⟩) hrb).trans c8
    clear hm
    by_cases hlt : j < n
    · have hjl : j < d.goods.length := by have := HN.out; omega
      obtain ⟨g, cap, hv, hgl, hcell⟩ := owns_pos H.out.goods (by omega)
      rw [HV.out] at hv
      injection hv with h1 h2 h3
      subst h1 h3
      have cp := (HM.out.2.cell (p := ⟨g, j * 5 + 4, none⟩) hgl).trans ((hcell (j * 5 + 4) (by omega)).trans (goodCells_at H.out.gl hjl (k := 4) (by decide)))
      rw [show (goodC (d.goods.getD j good0) (v.gs.getD j gv0))[4]? = some (v.gs.getD j gv0).pv from rfl] at cp
      obtain ⟨_, _, p3, p4, p5, _⟩ := H.out.gb j hjl
      obtain ⟨pa, pc, hpv⟩ := owns_form p3
      rw [hpv] at cp p3
      have HP : Hid (w.ownsRow 0 58 2 (.slice pa (v.gs.getD j gv0).pl.length pc) (v.gs.getD j gv0).pl.length (prCells (v.gs.getD j gv0).pl) ∧ (v.gs.getD j gv0).pl.length ≤ 1000 ∧ lastP (v.gs.getD j gv0).pl = (d.goods.getD j good0).puts) := ⟨p3, p4, p5⟩
      clear p3 p4 p5 hpv hcell h2
      generalize (v.gs.getD j gv0).pl = pl at cp HP
      have m1 : (j : Int) < (N : Int) := by omega
      have m2 : (j : Int) < (n : Int) := by omega
      go_wp2_with fail
      refine (after_any _ _ (listOf (mapF (d.goods.take j))) pl wr (pairsV_own HM.out.1 (by have := listOf_len (mapF (d.goods.take j)); omega)) (pairsV_own (owns_keep HP.out.1 HM.out.2) (by have := HP.out.2.1; omega))).mono ?_
      rintro e W2 hA
      obtain ⟨av, he, hA2⟩ := id hA
      subst he
      have HX : Hid (MapRel d w (j + 1) av W2) := mapRel_next HM.out hjl HP.out.2.2 hA
      clear hA hA2
      go_wp2
      go_roundw
      case rel => exact ⟨j + 1, by omega, by go_num, HX.out⟩
      case measure => simp [intOf]; omega
    · obtain rfl : j = n := by omega
      go_wp2
      go_ret
      exact ⟨_, rfl, HM.out.1, HM.out.2⟩
theorem refMap_any (F : Nat → Prop) (w : World) (rb : Nat) (d : DeskM) (v : RV) (h : RD F w rb d v) (hg : d.goods.length ≤ 1000000000000) :
    Calls Tryz.prog 40 #[ptrV rb] w fun e w' => Aftered (mapF d.goods) w e w' := by
  have H : Hid (RD F w rb d v) := h
  obtain ⟨ga, gc, hj⟩ := owns_form h.goods
  have c8 : w.cell? ⟨rb, 8, none⟩ = some (.slice ga d.goods.length gc) := by rw [blk_cell h.blk, ← hj]; rfl
  have HG : Hid (d.goods.length ≤ 1000000000000) := hg
  have HE : Hid (d.goods.take d.goods.length = d.goods) := List.take_length
  clear h hj hg
  unfold ptrV
  go_enter Tryz.func40, Tryz.ntmps40
  go_wp2_with fail
  refine (refMapAt_any F w rb d v d.goods.length H.out (Nat.le_refl _) HG.out).mono ?_
  rintro e W2 ⟨av, rfl, h1, h2⟩
  rw [HE.out] at h1
  have HX : Hid (W2.ownsRow w.heap.size 58 2 av (listOf (mapF d.goods)).length (prCells (listOf (mapF d.goods))) ∧ Below w.heap.size w W2) := ⟨h1, h2⟩
  clear h1 h2
  go_wp2
  go_ret
  exact ⟨_, rfl, HX.out.1, HX.out.2⟩
end Go.Proofs.YtlbmcdoldnajoaaGreat
