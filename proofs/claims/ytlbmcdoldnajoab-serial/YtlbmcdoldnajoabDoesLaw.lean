import Derived.Test.YtlbmcdoldnajoabFrame
import Derived.Deep.QuietTactic
import Derived.BigQuiet
import Derived.Deep.RegionHeld3
import Derived.Deep.DrawnRows
import Derived.StillTailTactics
import Derived.Deep.RegionLaw
import Derived.Deep.AppendLies

namespace Go.Proofs.Ytlbmcdoldnajoab
open Go.RowKit
def prCells : List (Int × Int) → List Value
  | [] => []
  | p :: r => .int .i64 p.1 :: .int .i64 p.2 :: prCells r
theorem prCells_append : ∀ l m : List (Int × Int), prCells (l ++ m) = prCells l ++ prCells m
  | [], m => rfl
  | p :: r, m => by simp [prCells, prCells_append r m]
theorem prCells_get : ∀ (l : List (Int × Int)) (i : Nat), i < l.length → (prCells l)[i * 2]? = some (.int .i64 (l.getD i pz).1) ∧ (prCells l)[i * 2 + 1]? = some (.int .i64 (l.getD i pz).2)
  | [], i, h => by simp at h
  | p :: r, 0, _ => by simp [prCells]
  | p :: r, i + 1, h => by
    have ih := prCells_get r i (by simpa using h)
    have e0 : (i + 1) * 2 = i * 2 + 2 := by omega
    simp only [prCells, e0, List.getElem?_cons_succ, List.getD_cons_succ]
    exact ih
/-- a block behind a store into it -/
theorem blk_set {w : World} {b : Nat} {cur : Array Value} {t : TypeId} {fr : Nat × Nat} (h : w.heap[b]? = some (.cells cur t fr)) (i : Nat) (v : Value) :
    (w.setCell ⟨b, i, none⟩ v).heap[b]? = some (.cells (cur.setIfInBounds i v) t fr) := by
  rw [setCell_eq_setRow w b i cur t fr v h]
  exact setRow_heap w b cur _ t _ h
theorem blk_other {w : World} {b b' : Nat} (h : b' ≠ b) (i : Nat) (v : Value) : (w.setCell ⟨b, i, none⟩ v).heap[b']? = w.heap[b']? := Below.heap_setCell w ⟨b, i, none⟩ v b' h
theorem blk_cell {w : World} {b i : Nat} {cur : Array Value} {t : TypeId} {fr : Nat × Nat} (h : w.heap[b]? = some (.cells cur t fr)) : w.cell? ⟨b, i, none⟩ = cur[i]? := by simp [World.cell?, h]
theorem blk_free {w : World} {b i : Nat} {cur : Array Value} {t : TypeId} (h : w.heap[b]? = some (.cells cur t (0, 0))) : w.frozen? ⟨b, i, none⟩ = false := by simp [World.frozen?, h]
theorem blk_ne {w : World} {a b : Nat} {c d : Array Value} {t u : TypeId} {f g : Nat × Nat} (h : w.heap[a]? = some (.cells c t f)) (k : w.heap[b]? = some (.cells d u g)) (e : t ≠ u) : a ≠ b := fun hab => by
  subst hab; rw [h] at k; injection k with k; injection k with _ k; exact e k
theorem blk_lt {w : World} {b : Nat} {o : Obj} (h : w.heap[b]? = some o) : b < w.heap.size := (Array.getElem?_eq_some_iff.1 h).1
/-- an owned row stays so behind a store into another block -/
theorem owns_set {w : World} {base : Nat} {e : TypeId} {size : Nat} {v : Value} {n : Nat} {xs : List Value} (h : w.ownsRow base e size v n xs) {b : Nat} (hb : v.ownBlock ≠ some b) (i : Nat) (u : Value) : (w.setCell ⟨b, i, none⟩ u).ownsRow base e size v n xs := by
  obtain ⟨h1, h2⟩ := h
  refine ⟨h1, ?_⟩
  rcases h2 with h2 | ⟨g, cap, cur, hv, hg, hh, r⟩
  · exact Or.inl h2
  · have hne : g ≠ b := fun e => by subst e; subst hv; exact hb rfl
    exact Or.inr ⟨g, cap, cur, hv, hg, by rw [blk_other hne]; exact hh, r⟩
/-- an owned row's block has the row's own type -/
theorem owns_ne {w : World} {base : Nat} {e : TypeId} {size : Nat} {v : Value} {n : Nat} {xs : List Value} (h : w.ownsRow base e size v n xs) {b : Nat} {cur : Array Value} {t : TypeId} {fr : Nat × Nat} (hb : w.heap[b]? = some (.cells cur t fr)) (ht : e ≠ t) : v.ownBlock ≠ some b := by
  intro hv
  rcases h.2 with ⟨rfl, _⟩ | ⟨g, cap, cur', rfl, _, hh, _⟩
  · cases hv
  · injection hv with hv
    have hv' : g = b := hv
    subst hv'
    exact blk_ne hh hb ht rfl
end Go.Proofs.Ytlbmcdoldnajoab
namespace Go.Proofs.Ytlbmcdoldnajoab
open Go.RowKit
def goodP (l : List (Int × Int)) (i : Nat) : Bool := keyB (l.getD i pz).1 && decide (0 ≤ (l.getD i pz).2 ∧ (l.getD i pz).2 ≤ 9999) && (decide (i = 0) || decide ((l.getD (i - 1) pz).1 < (l.getD i pz).1))
theorem mapB_eq (l : List (Int × Int)) : mapB l = (List.range l.length).all (goodP l) := rfl
theorem mapB_bad {l : List (Int × Int)} {i : Nat} (hi : i < l.length) (h : goodP l i = false) : mapB l = false := by
  rw [mapB_eq, List.all_eq_false]
  exact ⟨i, by simpa using hi, by rw [h]; simp⟩
theorem mapB_good {l : List (Int × Int)} (h : ∀ i, i < l.length → goodP l i = true) : mapB l = true := by
  rw [mapB_eq, List.all_eq_true]
  exact fun i hi => h i (by simpa using hi)
end Go.Proofs.Ytlbmcdoldnajoab
namespace Go.Proofs.Ytlbmcdoldnajoab
open Go.RowKit
def runMo (l : List St) (ml : List (Int × Int)) (fuel : Int) : Mo := play l (vIn ml) fuel.toNat mo0
def runSt (l : List St) (ml : List (Int × Int)) (fuel : Int) : Int := if runErr l ml fuel = 0 then endState l (runMo l ml fuel) else 0
def runTold (l : List St) (ml : List (Int × Int)) (fuel : Int) : List Int := if runErr l ml fuel = 0 then (runMo l ml fuel).told else []
def runTries (l : List St) (ml : List (Int × Int)) (fuel : Int) : Int := if runErr l ml fuel = 0 then 1 else 0
def runMap (l : List St) (ml : List (Int × Int)) (fuel : Int) : List (Int × Int) := if runErr l ml fuel = 0 then listOf (mapAfter l (vIn ml) (runMo l ml fuel)) else []
/-- what a Run hands back: lists of its own -/
def Ran (l : List St) (ml : List (Int × Int)) (fuel : Int) (w : World) (e : Ending) (w' : World) : Prop := ∃ tv av,
  e = .returned (.tuple #[.agg #[.int .i64 (runSt l ml fuel), tv, .int .i64 (runTries l ml fuel)], av, .int .i64 (runErr l ml fuel)]) ∧
  w'.ownsRow w.heap.size 3 1 tv (runTold l ml fuel).length ((runTold l ml fuel).map (Value.int .i64)) ∧
  w'.ownsRow w.heap.size 46 2 av (runMap l ml fuel).length (prCells (runMap l ml fuel)) ∧ Below w.heap.size w w'
theorem ran_err {l : List St} {ml : List (Int × Int)} {fuel : Int} {w w' : World} {n : Int} (h : runErr l ml fuel = n) (hn : n ≠ 0) (hb : Below w.heap.size w w') :
    Ran l ml fuel w (.returned (.tuple #[.agg #[.int .i64 0, .slice none 0 0, .int .i64 0], .slice none 0 0, .int .i64 n])) w' := by
  have h0 : ¬ runErr l ml fuel = 0 := by rw [h]; exact hn
  refine ⟨.slice none 0 0, .slice none 0 0, ?_, ?_, ?_, hb⟩
  · simp [runSt, runTries, h, hn]
  · simp only [runTold, if_neg h0]; exact World.ownsRow_nil _ _ _ _
  · simp only [runMap, if_neg h0]; exact World.ownsRow_nil _ _ _ _
theorem vIn_bd : ∀ (l : List (Int × Int)) (k : Int), (∀ p ∈ l, p.2 ≤ 9999) → vIn l k ≤ 9999
  | [], _, _ => by simp [vIn]
  | p :: r, k, h => by
    unfold vIn
    split
    · exact h p (by simp)
    · exact vIn_bd r k (fun q hq => h q (by simp [hq]))
theorem vIn_le {l : List (Int × Int)} (h : mapB l = true) (k : Int) : vIn l k ≤ 9999 := by
  refine vIn_bd l k (fun p hp => ?_)
  obtain ⟨i, hi, rfl⟩ := List.getElem_of_mem hp
  rw [mapB_eq, List.all_eq_true] at h
  have := h _ (List.mem_range.2 hi)
  simp [goodP, hi] at this
  exact this.1.2.2
end Go.Proofs.Ytlbmcdoldnajoab
namespace Go.Proofs.Ytlbmcdoldnajoab
structure MoOk (n : Nat) (x : Mo) : Prop where
  len : x.regs.length = 4
  regs : ∀ r ∈ x.regs, 0 ≤ r ∧ r ≤ 9999
  puts : ∀ k v, x.puts k = some v → v ≤ 9999
  pc : x.pc ≤ n
  told : x.told.length ≤ x.done
theorem mo0_ok (n : Nat) : MoOk n mo0 := ⟨rfl, by simp [mo0], by simp [mo0], Nat.zero_le _, by simp [mo0]⟩
theorem reg_le {x : Mo} {n : Nat} (h : MoOk n x) (a : Int) : 0 ≤ reg x a ∧ reg x a ≤ 9999 := by
  unfold reg
  by_cases ha : a.toNat < x.regs.length
  · have e : x.regs.getD a.toNat 0 = x.regs[a.toNat] := by simp [List.getD, ha]
    rw [e]
    exact h.regs _ (List.getElem_mem _)
  · have e : x.regs.getD a.toNat 0 = 0 := by simp [List.getD, List.getElem?_eq_none (Nat.le_of_not_lt ha)]
    omega
theorem see_le {x : Mo} {n : Nat} (h : MoOk n x) {m : Int → Int} (hm : ∀ k, m k ≤ 9999) (k : Int) : see m x.puts k ≤ 9999 := by
  unfold see
  cases e : x.puts k with
  | none => simpa using hm k
  | some v => simpa using h.puts k v e
theorem setReg_ok {n : Nat} {x : Mo} (h : MoOk n x) (a : Int) {v : Int} (h0 : 0 ≤ v) (h1 : v ≤ 9999) : MoOk n (setReg x a v) :=
  ⟨by simpa [setReg] using h.len, fun r hr => by
    rcases List.mem_or_eq_of_mem_set hr with hr | rfl
    · exact h.regs r hr
    · exact ⟨h0, h1⟩, h.puts, h.pc, h.told⟩
theorem bec_ok {n : Nat} {x : Mo} (h : MoOk n x) (a v : Int) : MoOk n (bec x a v) := by
  unfold bec
  split
  · exact ⟨h.len, h.regs, h.puts, h.pc, h.told⟩
  · exact setReg_ok h a (by omega) (by omega)
theorem read_ok {n : Nat} {x : Mo} (h : MoOk n x) (r : List Bool) : MoOk n { x with read := r } := ⟨h.len, h.regs, h.puts, h.pc, h.told⟩
theorem bec_done (x : Mo) (a v : Int) : (bec x a v).done = x.done := by unfold bec; split <;> rfl
/-- the step may stand where it stands -/
theorem stp_ok {n : Nat} {x : Mo} {s : St} {m : Int → Int} (h : MoOk n x) (hpc : x.pc < n) (hm : ∀ k, m k ≤ 9999) (hs : stB s x.pc n = true) : MoOk n (stp s m x) := by
  have h1 : MoOk n { x with done := x.done + 1, pc := x.pc + 1 } := ⟨h.len, h.regs, h.puts, hpc, Nat.le_succ_of_le h.told⟩
  have hsee := see_le h hm
  have hr := reg_le h
  unfold stB stepB at hs
  unfold stp
  simp only
  split at hs
  · rename_i e; rw [if_pos e]
    simp [inB] at hs
    exact setReg_ok h1 _ (by omega) (by omega)
  split at hs
  · rename_i e1 e; rw [if_neg e1, if_pos e]
    refine setReg_ok (read_ok h1 _) _ ?_ ?_ <;> split <;> first | omega | exact hsee _
  split at hs
  · rename_i e1 e2 e; rw [if_neg e1, if_neg e2, if_pos e]
    refine ⟨h1.len, h1.regs, fun k v hk => ?_, h1.pc, h1.told⟩
    simp only [putAt] at hk
    split at hk
    · injection hk with hk; rw [← hk]; exact (hr _).2
    · exact h.puts k v hk
  split at hs
  · rename_i e1 e2 e3 e; rw [if_neg e1, if_neg e2, if_neg e3, if_pos e]
    refine ⟨h1.len, h1.regs, fun k v hk => ?_, h1.pc, h1.told⟩
    simp only [putAt] at hk
    split at hk
    · injection hk with hk; omega
    · exact h.puts k v hk
  split at hs
  · rename_i e1 e2 e3 e4 e
    rw [if_neg e1, if_neg e2, if_neg e3, if_neg e4]
    by_cases e5 : s.op = 5
    · rw [if_pos e5]; exact bec_ok (read_ok h1 _) _ _
    · rw [if_neg e5, if_pos (by omega)]; exact bec_ok (read_ok h1 _) _ _
  split at hs
  · rename_i e1 e2 e3 e4 e5 e
    rw [if_neg e1, if_neg e2, if_neg e3, if_neg e4, if_neg (by omega), if_neg (by omega)]
    by_cases e7 : s.op = 7
    · rw [if_pos e7]; exact bec_ok h1 _ _
    · rw [if_neg e7, if_pos (by omega)]; exact bec_ok h1 _ _
  split at hs
  · rename_i e1 e2 e3 e4 e5 e7 e
    rw [if_neg e1, if_neg e2, if_neg e3, if_neg e4, if_neg (by omega), if_neg (by omega), if_neg (by omega), if_neg (by omega), if_pos e]
    simp [inB] at hs
    split
    · exact ⟨h1.len, h1.regs, h1.puts, by show x.pc + 1 + s.b.toNat ≤ n; omega, h1.told⟩
    · exact h1
  split at hs
  · rename_i e1 e2 e3 e4 e5 e7 e9 e
    rw [if_neg e1, if_neg e2, if_neg e3, if_neg e4, if_neg (by omega), if_neg (by omega), if_neg (by omega), if_neg (by omega), if_neg e9, if_pos e]
    split
    · exact ⟨h1.len, h1.regs, h1.puts, by show x.pc + 1 - s.b.toNat - 1 ≤ n; omega, h1.told⟩
    · exact h1
  split at hs
  · rename_i e1 e2 e3 e4 e5 e7 e9 e10 e
    rw [if_neg e1, if_neg e2, if_neg e3, if_neg e4, if_neg (by omega), if_neg (by omega), if_neg (by omega), if_neg (by omega), if_neg e9, if_neg e10, if_pos e]
    exact ⟨h1.len, h1.regs, h1.puts, h1.pc, by simpa using h.told⟩
  split at hs
  · rename_i e1 e2 e3 e4 e5 e7 e9 e10 e11 e
    rw [if_neg e1, if_neg e2, if_neg e3, if_neg e4, if_neg (by omega), if_neg (by omega), if_neg (by omega), if_neg (by omega), if_neg e9, if_neg e10, if_neg e11, if_pos e]
    exact ⟨h1.len, h1.regs, h1.puts, h1.pc, h1.told⟩
  · cases hs
theorem setReg_done (x : Mo) (a v : Int) : (setReg x a v).done = x.done := rfl
theorem putAt_done (x : Mo) (a v : Int) : (putAt x a v).done = x.done := rfl
theorem stp_done (s : St) (m : Int → Int) (x : Mo) : (stp s m x).done = x.done + 1 := by
  simp only [stp, apply_ite Mo.done, bec_done, setReg_done, putAt_done, ite_self]
theorem fin_ite {p : Prop} [Decidable p] {a b : Mo} {x : Int} (ha : a.fin = x ∨ a.fin = 4 ∨ a.fin = 5) (hb : b.fin = x ∨ b.fin = 4 ∨ b.fin = 5) : (if p then a else b).fin = x ∨ (if p then a else b).fin = 4 ∨ (if p then a else b).fin = 5 := by
  split <;> assumption
theorem bec_fin (x : Mo) (a v : Int) : (bec x a v).fin = x.fin ∨ (bec x a v).fin = 4 ∨ (bec x a v).fin = 5 := by
  unfold bec
  split
  · exact Or.inr (Or.inr rfl)
  · exact Or.inl rfl
theorem stp_fin (s : St) (m : Int → Int) (x : Mo) : (stp s m x).fin = x.fin ∨ (stp s m x).fin = 4 ∨ (stp s m x).fin = 5 := by
  unfold stp
  simp only
  exact fin_ite (Or.inl rfl) (fin_ite (Or.inl rfl) (fin_ite (Or.inl rfl) (fin_ite (Or.inl rfl) (fin_ite (bec_fin _ _ _) (fin_ite (bec_fin _ _ _) (fin_ite (bec_fin _ _ _) (fin_ite (bec_fin _ _ _)
    (fin_ite (fin_ite (Or.inl rfl) (Or.inl rfl)) (fin_ite (fin_ite (Or.inl rfl) (Or.inl rfl)) (fin_ite (Or.inl rfl) (fin_ite (Or.inr (Or.inl rfl)) (Or.inl rfl))))))))))))
theorem play_fin (l : List St) (m : Int → Int) : ∀ (n : Nat) (x : Mo), (x.fin = 0 ∨ x.fin = 4 ∨ x.fin = 5) → (play l m n x).fin = 0 ∨ (play l m n x).fin = 4 ∨ (play l m n x).fin = 5
  | 0, _, h => h
  | n + 1, x, h => by
    unfold play
    split
    · refine play_fin l m n _ ?_
      rcases stp_fin (l.getD x.pc stz) m x with e | e | e
      · rw [e]; exact h
      · exact Or.inr (Or.inl e)
      · exact Or.inr (Or.inr e)
    · exact h
/-- the state of a run that goes on, or has ended by a step -/
def stOf (y : Mo) : Int := if y.fin = 0 then 2 else y.fin
/-- what becomes of a run that goes on, at the next call of Next: its state, and the run -/
def nextE (l : List St) (m : Int → Int) (fn : Nat) (x : Mo) : Int × Mo :=
  if l.length ≤ x.pc then (3, x) else if fn ≤ x.done then (5, x) else (stOf (stp (l.getD x.pc stz) m x), stp (l.getD x.pc stz) m x)
end Go.Proofs.Ytlbmcdoldnajoab
namespace Go.Proofs.Ytlbmcdoldnajoab
open Go.RowKit
/-- pairs in a row that is owned -/
theorem owns_pairs {w : World} {base : Nat} {v : Value} {pl : List (Int × Int)} {e : TypeId} (h : w.ownsRow base e 2 v pl.length (prCells pl)) :
    ∃ ao cap, v = .slice ao pl.length cap ∧ ((pl = [] ∧ ao = none) ∨ ∃ g, ao = some ⟨g, 0, none⟩ ∧ base ≤ g ∧ g < w.heap.size ∧ PairsAt w g 0 pl) := by
  rcases h.2 with ⟨rfl, h0⟩ | ⟨g, cap, cur, rfl, hb, hh, hn, _, hs, ht⟩
  · have : pl = [] := List.eq_nil_of_length_eq_zero h0
    subst this
    exact ⟨none, 0, rfl, Or.inl ⟨rfl, rfl⟩⟩
  · refine ⟨_, cap, rfl, Or.inr ⟨g, rfl, hb, blk_lt hh, fun i hi => ?_⟩⟩
    obtain ⟨g0, g1⟩ := prCells_get pl i hi
    rw [← ht] at g0 g1
    rw [List.getElem?_take_of_lt (by omega)] at g0 g1
    rw [blk_cell hh, blk_cell hh, Nat.zero_add]
    exact ⟨by simpa using g0, by simpa using g1⟩
end Go.Proofs.Ytlbmcdoldnajoab
namespace Go.Proofs.Ytlbmcdoldnajoab
open Go.RowKit
attribute [local go_sem ↓] Go.wp_at_zero Go.wp_at_succ
theorem name_wp {P : Program} {c : Code} {Q : Exit → Act → World → Prop} {a : Act} {W : World} {p : World → Prop} (h : p W) (k : ∀ W', p W' → Code.wp P c Q a W') : Code.wp P c Q a W := k W h
theorem name_calls {P : Program} {f : FuncId} {args : Array Value} {R : Ending → World → Prop} {W : World} {p : World → Prop} (h : p W) (k : ∀ W', p W' → Calls P f args W' R) : Calls P f args W R := k W h
end Go.Proofs.Ytlbmcdoldnajoab
namespace Go.Proofs.Ytlbmcdoldnajoab
open Go.RowKit
attribute [local go_sem ↓] Go.wp_at_zero Go.wp_at_succ
theorem wp_tail {id : Nat} {Q : Exit → Act → World → Prop} {a : Act} {w : World} {l : List Oper} (n : Nat) (hB : Region.lexTailB .any l.toArray n = true)
    (h : wpStill Try.prog l.toArray w.drew (fun a' => wpList Try.prog l.toArray Q (l.drop n) a' w.drew) (l.take n) a) : (Code.region id l.toArray true).wp Try.prog Q a w := wp_region_still_tail n (by kernel_rfl) hB h
end Go.Proofs.Ytlbmcdoldnajoab
namespace Go.Proofs.Ytlbmcdoldnajoab
open Go.RowKit
attribute [local go_sem ↓] Go.wp_at_zero Go.wp_at_succ
theorem Try.infoPair : (Try.prog.info? 46).map (fun i => (i.zero, i.size, i.bytes)) = some (some (.agg #[.int .i64 0, .int .i64 0]), 2, 16) := by kernel_rfl
theorem Try.infoInt : (Try.prog.info? 3).map (fun i => (i.zero, i.size, i.bytes)) = some (some (.int .i64 0), 1, 8) := by kernel_rfl
end Go.Proofs.Ytlbmcdoldnajoab
