import Derived.Test.YtlbmcdoldnajoabStepsA1
import Derived.Test.YtlbmcdoldnajoabDoesLaw
import Derived.Deep.AppendLies
import Derived.ArgAppend
import Derived.Test.YtlbmcdoldnajoabFrame
import Derived.Laws.CopyOwn
import Derived.OwnWalk
import Derived.Deep.RegionHeld3
import Derived.Deep.DrawnRows
import Derived.Test.YtlbmcdoldnajoabRefRun
import Derived.Deep.QuietTactic
import Derived.BigQuiet
import Derived.Test.YtlbmcdoldnajoabEngB
import Derived.Test.YtlbmcdoldnajoabDeskM

namespace Go.Proofs.Ytlbmcdoldnajoab
open Go.RowKit
/-- the two boxes of outcomes, behind a call that wrote nothing that was there -/
theorem boxes2 {w W : World} {a b c d e f : Value} {t : TypeId} (hb : Below ((w.alloc (.cells #[a, b, c] t)).alloc (.cells #[d, e, f] t)).heap.size ((w.alloc (.cells #[a, b, c] t)).alloc (.cells #[d, e, f] t)) W) :
    W.cell? ⟨w.heap.size, 0, none⟩ = some a ∧ W.cell? ⟨w.heap.size, 2, none⟩ = some c ∧ W.cell? ⟨w.heap.size + 1, 0, none⟩ = some d ∧ W.cell? ⟨w.heap.size + 1, 2, none⟩ = some f := by
  have h1 : W.heap[w.heap.size]? = some (.cells #[a, b, c] t) := by
    rw [hb.block _ (by simp; omega), Below.heap_alloc _ _ _ (by simp)]; exact heap_alloc_new w _
  have h2 : W.heap[w.heap.size + 1]? = some (.cells #[d, e, f] t) := by
    rw [hb.block _ (by simp)]
    have := heap_alloc_new (w.alloc (.cells #[a, b, c] t)) (.cells #[d, e, f] t)
    rwa [World.size_alloc] at this
  exact ⟨by rw [blk_cell h1]; rfl, by rw [blk_cell h1]; rfl, by rw [blk_cell h2]; rfl, by rw [blk_cell h2]; rfl⟩
set_option maxRecDepth 100000 in
set_option maxHeartbeats 1000000 in
theorem pivotkeep_sameOutcome_any (st tr su tq : Int) (tv uv : Value) (x y : List Int) (w : World) (ht : IntsV w tv x) (hu : IntsV w uv y) :
    Calls Try.prog 17 #[.agg #[.int .i64 st, tv, .int .i64 tr], .agg #[.int .i64 su, uv, .int .i64 tq]] w fun e w' => e = .returned (.bool (decide (x = y) && decide (st = su))) ∧ Below w.heap.size w w' := by
  have HT : Hid (IntsV w tv x) := ht
  have HU : Hid (IntsV w uv y) := hu
  obtain ⟨ta, tc, rfl, _⟩ := ht
  obtain ⟨ua, uc, rfl, _⟩ := hu
  rcases (show (¬ x = y) ∨ (x = y ∧ ¬ st = su) ∨ (x = y ∧ st = su) from by by_cases h1 : x = y <;> by_cases h2 : st = su <;> simp [*]) with k0 | ⟨rfl, k1⟩ | ⟨rfl, rfl⟩
  all_goals
    go_enter Try.func17, Try.ntmps17
    go_wp2_with fail
    refine (pivotkeep_sameInts_any _ _ _ _ _ (HT.out.below (((Below.refl _ _).alloc (Nat.le_refl _) _).alloc (by simp) _)) (HU.out.below (((Below.refl _ _).alloc (Nat.le_refl _) _).alloc (by simp) _))).mono ?_
    rintro e W ⟨rfl, hb⟩
    obtain ⟨c0, c2, d0, d2⟩ := boxes2 hb
    have HB : Hid (Below w.heap.size w W) := (((Below.refl _ _).alloc (Nat.le_refl _) _).alloc (by simp) _).trans (hb.mono (by simp; omega))
    clear hb
    go_wp2
    go_ret
    refine ⟨ret_bool ?_, HB.out⟩
    simp [*]
end Go.Proofs.Ytlbmcdoldnajoab
namespace Go.Proofs.Ytlbmcdoldnajoab
open Go.RowKit
theorem keeps_of_block {w w' : World} {b e s : Nat} {u : Value} {k : Nat} {ys : List Value} (h : w.ownsRow b e s u k ys) (hb : ∀ g, u.ownBlock = some g → w'.heap[g]? = w.heap[g]?) : w'.ownsRow b e s u k ys := by
  refine ⟨h.1, ?_⟩
  rcases h.2 with h | ⟨g, cap, cur, rfl, h2, h3, h4⟩
  · exact Or.inl h
  · exact Or.inr ⟨g, cap, cur, rfl, h2, by rw [hb g rfl]; exact h3, h4⟩
end Go.Proofs.Ytlbmcdoldnajoab
namespace Go.Proofs.Ytlbmcdoldnajoab
open Go.RowKit
def stCells : List St → List Value
  | [] => []
  | s :: r => .int .i64 s.op :: .int .i64 s.a :: .int .i64 s.b :: .int .i64 s.c :: stCells r
theorem length_stCells : ∀ l : List St, (stCells l).length = l.length * 4
  | [] => rfl
  | s :: r => by simp [stCells, length_stCells r]; omega
theorem stCells_append : ∀ l m : List St, stCells (l ++ m) = stCells l ++ stCells m
  | [], m => rfl
  | s :: r, m => by simp [stCells, stCells_append r m]
theorem stCells_oneCell : ∀ (l : List St), ∀ v ∈ stCells l, v.oneCell' = true
  | [], v, h => by cases h
  | s :: r, v, h => by
    simp only [stCells, List.mem_cons] at h
    rcases h with rfl | rfl | rfl | rfl | h
    · rfl
    · rfl
    · rfl
    · rfl
    · exact stCells_oneCell r v h
theorem stCells_get : ∀ (l : List St) (i : Nat), i < l.length →
    (stCells l)[i * 4]? = some (.int .i64 (l.getD i stz).op) ∧ (stCells l)[i * 4 + 1]? = some (.int .i64 (l.getD i stz).a) ∧ (stCells l)[i * 4 + 2]? = some (.int .i64 (l.getD i stz).b) ∧ (stCells l)[i * 4 + 3]? = some (.int .i64 (l.getD i stz).c)
  | [], i, h => by simp at h
  | s :: r, 0, _ => by simp [stCells]
  | s :: r, i + 1, h => by
    have ih := stCells_get r i (by simpa using h)
    have e0 : (i + 1) * 4 = i * 4 + 4 := by omega
    simp only [stCells, e0, List.getElem?_cons_succ, List.getD_cons_succ]
    exact ih
theorem StepsAt.cells {w : World} {b off : Nat} {l : List St} (h : StepsAt w b off l) : ∀ j v, (stCells l)[j]? = some v → w.cell? ((⟨b, off, none⟩ : Addr).add j) = some v := by
  intro j v hj
  have hlt : j < (stCells l).length := (List.getElem?_eq_some_iff.1 hj).1
  rw [length_stCells] at hlt
  have hadd : (⟨b, off, none⟩ : Addr).add j = ⟨b, off + j, none⟩ := by unfold Addr.add; split <;> simp_all
  rw [hadd]
  obtain ⟨h0, h1, h2, h3⟩ := h (j / 4) (by omega)
  obtain ⟨g0, g1, g2, g3⟩ := stCells_get l (j / 4) (by omega)
  rcases (show j = j / 4 * 4 ∨ j = j / 4 * 4 + 1 ∨ j = j / 4 * 4 + 2 ∨ j = j / 4 * 4 + 3 by omega) with e | e | e | e
  · rw [← e] at g0 h0; rw [hj] at g0; rw [h0, g0]
  · rw [← e] at g1; rw [hj] at g1; rw [show off + j = off + j / 4 * 4 + 1 by omega, h1, g1]
  · rw [← e] at g2; rw [hj] at g2; rw [show off + j = off + j / 4 * 4 + 2 by omega, h2, g2]
  · rw [← e] at g3; rw [hj] at g3; rw [show off + j = off + j / 4 * 4 + 3 by omega, h3, g3]
theorem stepsAt_of_cells {w : World} {b off : Nat} {l : List St} (h : ∀ j v, (stCells l)[j]? = some v → w.cell? ⟨b, off + j, none⟩ = some v) : StepsAt w b off l := by
  intro i hi
  obtain ⟨g0, g1, g2, g3⟩ := stCells_get l i hi
  exact ⟨h _ _ g0, by simpa [Nat.add_assoc] using h _ _ g1, by simpa [Nat.add_assoc] using h _ _ g2, by simpa [Nat.add_assoc] using h _ _ g3⟩
/-- a row whose first cells are those of the steps -/
theorem stepsAt_of_row {w : World} {g : Nat} {l : List St} {rest : List Value} {t : TypeId} {fr : Nat × Nat} (h : w.heap[g]? = some (.cells (stCells l ++ rest).toArray t fr)) : StepsAt w g 0 l := by
  refine stepsAt_of_cells fun j v hj => ?_
  have hlt : j < (stCells l).length := (List.getElem?_eq_some_iff.1 hj).1
  simp [World.cell?, h, List.getElem?_append_left hlt, hj]
end Go.Proofs.Ytlbmcdoldnajoab
namespace Go.Proofs.Ytlbmcdoldnajoab
open Go.RowKit
theorem Try.infoStep : (Try.prog.info? 78).map (fun i => (i.zero, i.size, i.bytes)) = some (some (.agg #[.int .i64 0, .int .i64 0, .int .i64 0, .int .i64 0]), 4, 32) := by kernel_rfl
theorem Try.sizeStep : (Try.prog.info? 78).map (·.size) = some 4 := by kernel_rfl
end Go.Proofs.Ytlbmcdoldnajoab
namespace Go.Proofs.Ytlbmcdoldnajoab
open Go.RowKit
theorem bec_told (x : Mo) (a v : Int) : (bec x a v).told = x.told := by unfold bec; split <;> rfl
theorem len_ite {p : Prop} [Decidable p] {a b : Mo} {n : Nat} (ha : a.told.length ≤ n) (hb : b.told.length ≤ n) : (if p then a else b).told.length ≤ n := by split <;> assumption
theorem stp_told (s : St) (m : Int → Int) (x : Mo) : (stp s m x).told.length ≤ x.told.length + 1 := by
  have h : ∀ y : Mo, y.told = x.told → y.told.length ≤ x.told.length + 1 := fun y e => by rw [e]; omega
  unfold stp
  simp only
  refine len_ite (h _ rfl) (len_ite (h _ rfl) (len_ite (h _ rfl) (len_ite (h _ rfl) (len_ite (h _ (bec_told _ _ _)) (len_ite (h _ (bec_told _ _ _)) (len_ite (h _ (bec_told _ _ _)) (len_ite (h _ (bec_told _ _ _))
    (len_ite (len_ite (h _ rfl) (h _ rfl)) (len_ite (len_ite (h _ rfl) (h _ rfl)) (len_ite ?_ (len_ite (h _ rfl) (h _ rfl))))))))))))
  simp
theorem play_told (l : List St) (m : Int → Int) : ∀ (n : Nat) (x : Mo), (play l m n x).told.length ≤ x.told.length + n
  | 0, _ => Nat.le_refl _
  | n + 1, x => by
    unfold play
    split
    · have := play_told l m n (stp (l.getD x.pc stz) m x)
      have := stp_told (l.getD x.pc stz) m x
      omega
    · omega
theorem runMap_len (l : List St) (ml : List (Int × Int)) (fuel : Int) : (runMap l ml fuel).length ≤ 16 := by
  unfold runMap
  split
  · rw [listOf_acc]; exact accL_len _ _
  · simp
theorem PairsV.wide {w : World} {B B' : Nat} {v : Value} {l : List (Int × Int)} (h : PairsV w B v l) (hB : B ≤ B') : PairsV w B' v l := by
  obtain ⟨ao, cap, rfl, hm, h⟩ := h
  refine ⟨ao, cap, rfl, hm, ?_⟩
  rcases h with h | ⟨b, off, h1, h2, h3⟩
  · exact Or.inl h
  · exact Or.inr ⟨b, off, h1, by omega, h3⟩
theorem intsV_own {w : World} {B : Nat} {v : Value} {xs : List Int} (h : w.ownsRow B 3 1 v xs.length (xs.map (Value.int .i64))) (hl : xs.length ≤ 140737488351232) : IntsV w v xs := by
  rcases h.2 with ⟨rfl, h0⟩ | ⟨g, cap, cur, rfl, _, hh, _⟩
  · have : xs = [] := List.eq_nil_of_length_eq_zero h0
    subst this
    exact ⟨none, 0, rfl, Nat.zero_le _, Or.inl rfl⟩
  · refine ⟨_, cap, rfl, hl, Or.inr ⟨g, 0, rfl, blk_lt hh, fun i hi => ?_⟩⟩
    rw [Nat.zero_add, h.cellAt i (by omega)]
    simp [List.getD, hi]
theorem pairsV_own {w : World} {B : Nat} {v : Value} {xs : List (Int × Int)} (h : w.ownsRow B 46 2 v xs.length (prCells xs)) (hl : xs.length ≤ 140737488351232) : PairsV w w.heap.size v xs := by
  obtain ⟨ao, cap, rfl, h1⟩ := owns_pairs h
  refine ⟨ao, cap, rfl, hl, ?_⟩
  rcases h1 with ⟨h1, _⟩ | ⟨g, h1, _, h2, h3⟩
  · exact Or.inl h1
  · exact Or.inr ⟨g, 0, h1, h2, h3⟩
/-- an owned row's block is there -/
theorem owns_lt {w : World} {B : Nat} {e : TypeId} {s : Nat} {v : Value} {n : Nat} {xs : List Value} (h : w.ownsRow B e s v n xs) {k : Nat} (hk : v.ownBlock = some k) : B ≤ k ∧ k < w.heap.size := by
  rcases h.2 with ⟨rfl, _⟩ | ⟨g, cap, cur, rfl, hb, hh, _⟩
  · cases hk
  · injection hk with hk; have hk : g = k := hk; subst hk; exact ⟨hb, blk_lt hh⟩
theorem own_types {w : World} {B B' : Nat} {e e' : TypeId} {s s' : Nat} {u v : Value} {n n' : Nat} {xs ys : List Value} (h : w.ownsRow B e s u n xs) (h' : w.ownsRow B' e' s' v n' ys) (he : e ≠ e') {k : Nat} (hu : u.ownBlock = some k) (hv : v.ownBlock = some k) : False := by
  rcases h'.2 with ⟨rfl, _⟩ | ⟨g, cap, cur, rfl, _, hh, _⟩
  · cases hv
  · injection hv with hv; have hv : g = k := hv; subst hv; exact owns_ne h hh he hu
/-- the program's own Run answers as the document's -/
def RunOK : Prop := ∀ (v mv : Value) (l : List St) (ml : List (Int × Int)) (fuel : Int) (w : World), StepsV w v l → PairsV w w.heap.size mv ml →
    Calls Try.prog 8 #[v, mv, .int .i64 fuel] w fun e w' => Ran l ml fuel w e w'
end Go.Proofs.Ytlbmcdoldnajoab
namespace Go.Proofs.Ytlbmcdoldnajoab
open Go.RowKit
/-- rows of parts that are all as long -/
theorem flat_get (n : Nat) : ∀ (L : List (List Value)) (_ : ∀ x ∈ L, x.length = n) (i k : Nat) (_ : k < n), L.flatten[i * n + k]? = (L[i]?).bind (·[k]?)
  | [], _, i, k, _ => by simp
  | x :: r, h, 0, k, hk => by
    have hx := h x (by simp)
    rw [List.flatten_cons, List.getElem?_append_left (by omega)]
    simp
  | x :: r, h, i + 1, k, hk => by
    have hx := h x (by simp)
    rw [List.flatten_cons, List.getElem?_append_right (by rw [hx, Nat.add_mul]; omega), hx, show (i + 1) * n + k - n = i * n + k by rw [Nat.add_mul]; omega, flat_get n r (fun y hy => h y (by simp [hy])) i k hk]
    simp
theorem flat_len (n : Nat) : ∀ (L : List (List Value)) (_ : ∀ x ∈ L, x.length = n), L.flatten.length = L.length * n
  | [], _ => by simp
  | x :: r, h => by
    rw [List.flatten_cons, List.length_append, h x (by simp), flat_len n r (fun y hy => h y (by simp [hy])), List.length_cons, Nat.add_mul]; omega
def ptrV (b : Nat) : Value := .pointer (some ⟨b, 0, none⟩)
def natV (n : Nat) : Value := .int .i64 (n : Int)
def nilV : Value := .slice none 0 0
/-- a row that has something: where it lies -/
theorem owns_pos {w : World} {B : Nat} {e : TypeId} {s : Nat} {v : Value} {n : Nat} {xs : List Value} (h : w.ownsRow B e s v n xs) (hn : 0 < n) : ∃ g cap, v = .slice (some ⟨g, 0, none⟩) n cap ∧ g < w.heap.size ∧ ∀ j, j < n * s → w.cell? ⟨g, j, none⟩ = xs[j]? := by
  have hc := h
  rcases h.2 with ⟨rfl, h0⟩ | ⟨g, cap, cur, rfl, _, hh, _⟩
  · omega
  · exact ⟨g, cap, rfl, blk_lt hh, fun j hj => hc.cellAt j hj⟩
theorem make_any {t e : TypeId} {z : Value} {size bytes : Nat} (ht : Try.prog.underlying t = some (.slice e)) (hi : (Try.prog.info? e).map (fun i => (i.zero, i.size, i.bytes)) = some (some z, size, bytes)) (n : Nat) (hn : n ≤ 1000) (hb : bytes ≤ 1000) (W : World) :
    (Instr.makeSlice t (.int .i64 (n : Int)) (.int .i64 (n : Int))).run Try.prog W = .ok (.slice (some ⟨W.heap.size, 0, none⟩) n n) (W.alloc (.cells (madeCells z.cells (n * size)) e)) := by
  obtain ⟨i0, h1, h2, h3, h4⟩ := info_parts hi
  have : (i0.bytes : Int) * (n : Int) ≤ 1000 * 1000 := Int.mul_le_mul (by omega) (by omega) (by omega) (by omega)
  rw [run_make W t e i0 z ht h1 h2 .i64 .i64 n n (by omega) (Int.le_refl _) (by omega) (by omega)]
  simp [h3]
theorem madeCells_rep (z : List Value) (n s : Nat) (hs : z.length = s) (h0 : 0 < s) : (madeCells z.toArray (n * s)).toList = (List.replicate n z).flatten := by
  apply List.ext_getElem?
  intro i
  have hfl := flat_len s (List.replicate n z) (fun x hx => by rw [List.eq_of_mem_replicate hx]; exact hs)
  rw [List.length_replicate] at hfl
  by_cases hi : i < n * s
  · have hq : i / s < n := Nat.div_lt_of_lt_mul (by rw [Nat.mul_comm]; exact hi)
    have hm : i % s < s := Nat.mod_lt _ h0
    have e : i = i / s * s + i % s := by rw [Nat.mul_comm]; exact (Nat.div_add_mod i s).symm
    rw [show (List.replicate n z).flatten[i]? = (List.replicate n z).flatten[i / s * s + i % s]? by rw [← e], flat_get s _ (fun x hx => by rw [List.eq_of_mem_replicate hx]; exact hs) _ _ hm]
    simp [madeCells, hi, hq, hs, hm]
  · rw [List.getElem?_eq_none (by simp [madeCells]; omega), List.getElem?_eq_none (by omega)]
theorem poll_no {d : DeskM} {n : Int} (h : ¬ (1 ≤ n ∧ n ≤ d.jobs.length)) : d.poll n = (0, [], 0, 8) := by
  have : d.ticketB n = false := by simp [DeskM.ticketB]; omega
  rw [DeskM.poll, this]; rfl
theorem poll_yes {d : DeskM} {i : Nat} (h : i < d.jobs.length) : d.poll ((i : Int) + 1) = ((d.jobs.getD i jobM0).state, (d.jobs.getD i jobM0).told, ((d.jobs.getD i jobM0).tries : Int), 0) := by
  have e : d.ticketB ((i : Int) + 1) = true := by simp [DeskM.ticketB]; omega
  have e2 : d.job ((i : Int) + 1).toNat = d.jobs.getD i jobM0 := by rw [DeskM.job, show ((i : Int) + 1).toNat - 1 = i by omega]
  rw [DeskM.poll, e, e2]; rfl
theorem listOf_len (f : Int → Int) : (listOf f).length ≤ 16 := by rw [listOf_acc]; exact accL_len _ _
end Go.Proofs.Ytlbmcdoldnajoab
