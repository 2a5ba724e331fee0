import Derived.Test.YtlbmcdoldnajoabFrame
import Derived.ProofKit
import Derived.Deep.Slices
import Derived.Test.YtlbmcdoldnajoabRunP
import Derived.Test.YtlbmcdoldnajoabRefD
import Derived.Test.YtlbmcdoldnajoabStepW

namespace Go.Proofs.Ytlbmcdoldnajoab
open Go.RowKit Go.Deep
theorem Try.cellsInt : Try.prog.cellsOf 3 = 1 := by kernel_rfl
end Go.Proofs.Ytlbmcdoldnajoab
namespace Go.Proofs.Ytlbmcdoldnajoab
open Go.RowKit Go.Deep
theorem i64B_wf {n : Int} (h : (Lit.int .i64 n).wf = true) : i64B n := by
  have h' : IntKind.i64.min ≤ n ∧ n ≤ IntKind.i64.max := by simpa [Lit.wf] using h
  exact ⟨Int.le_trans (by decide) h'.1, Int.le_trans h'.2 (by decide)⟩
section
variable {H : Type} {enc : TypeId × Value → H} {w : World} {base : Nat} {spare : Nat → Bool} {held : Bool}
set_option maxRecDepth 100000 in
theorem open_ints {fuel : Nat} {v : Value} {x : DataW H × List MemPlace} (h : DataW.trod enc Try.prog w base spare held fuel 32 [v] = some x) :
    ∃ l : List Int, (∀ n ∈ l, i64B n) ∧ (l.length ≤ 140737488351232 → IntsV w v l) ∧ (l = [] ∨ ∃ el sp, x.1 = .slice el sp ∧ el.length = l.length) := by
  rcases open_slice Try.underlying32 h with ⟨hc, _⟩ | ⟨a, len, cap, m, n, D, Pl, hc, hb, hl, hm, hmm, hx, hall⟩
  · simp at hc
    exact ⟨[], by simp, fun _ => ⟨none, 0, hc, Nat.zero_le _, Or.inl rfl⟩, Or.inl rfl⟩
  · simp at hc
    have hlm : len ≤ m := by rw [hmm]; split <;> omega
    obtain ⟨S, hS⟩ := choose_lt (n := len) (p := fun i (s : Int) => i64B s ∧ w.cell? (a.add i) = some (Value.int .i64 s)) (fun i hi => by
      obtain ⟨cs, h1, h2⟩ := hall i (by omega)
      rw [Try.cellsInt] at h1
      obtain ⟨_, _, hcell⟩ := World.cells?_some h1
      obtain ⟨s, rfl, _, hw⟩ := DataW.trod_int Try.underlying3 h2
      have := hcell 0 (by omega)
      simp only [Nat.mul_one] at this
      exact ⟨s, i64B_wf hw, by simpa [WideShapes.add_plain, Addr.add] using this⟩)
    have hlen : ((List.range len).map S).length = len := by simp
    refine ⟨(List.range len).map S, fun n hn => ?_, fun hmax => ⟨some a, cap, by rw [hlen]; exact hc, hmax, ?_⟩, Or.inr ⟨_, _, by rw [hx], by simp⟩⟩
    · simp only [List.mem_map, List.mem_range] at hn
      obtain ⟨i, hi, rfl⟩ := hn
      exact (hS i hi).1
    by_cases h0 : len = 0
    · left; subst h0; rfl
    · right
      obtain ⟨b, off, spot⟩ := a
      have hz := (hS 0 (by omega)).2
      simp [Addr.add] at hz
      have hspot : spot = none := by simpa using World.cell?_spot hz
      subst hspot
      refine ⟨b, off, rfl, World.block_lt_of_cell? w _ hz, fun i hi => ?_⟩
      rw [hlen] at hi
      have e : ((List.range len).map S).getD i 0 = S i := by simp [List.getD, hi]
      rw [e]
      have q := (hS i hi).2
      simp only [WideShapes.add_plain] at q
      exact q
end
end Go.Proofs.Ytlbmcdoldnajoab
namespace Go.Proofs.Ytlbmcdoldnajoab
theorem play_add (l : List St) (m : Int → Int) : ∀ (a b : Nat) (x : Mo), play l m (a + b) x = play l m b (play l m a x)
  | 0, b, x => by rw [Nat.zero_add]; rfl
  | a + 1, b, x => by
    rw [show a + 1 + b = (a + b) + 1 by omega, play, play]
    by_cases h : x.fin = 0 ∧ x.pc < l.length
    · rw [if_pos h, if_pos h]; exact play_add l m a b _
    · rw [if_neg h, if_neg h, play_end h]
def ltK (a b : Int × Int) : Prop := a.1 < b.1
theorem pair_mapB {l : List (Int × Int)} (h : ∀ p ∈ l, (0 ≤ p.1 ∧ p.1 ≤ 15) ∧ 0 ≤ p.2 ∧ p.2 ≤ 9999) (hs : l.Pairwise ltK) : mapB l = true := by
  rw [mapB_eq, List.all_eq_true]
  intro i hi
  have hi := List.mem_range.1 hi
  have e : l.getD i pz = l[i] := by simp [List.getD, hi]
  have hm := h l[i] (List.getElem_mem _)
  simp only [goodP, Bool.and_eq_true, Bool.or_eq_true, decide_eq_true_eq, e, keyB]
  refine ⟨⟨hm.1, hm.2⟩, ?_⟩
  by_cases h0 : i = 0
  · exact Or.inl h0
  · refine Or.inr ?_
    have hi' : i - 1 < l.length := by omega
    have e' : l.getD (i - 1) pz = l[i - 1] := by simp [List.getD, hi']
    rw [e']
    exact (List.pairwise_iff_getElem.1 hs) (i - 1) i hi' hi (by omega)
theorem acc_mem {f : Int → Int} {n : Nat} {p : Int × Int} : p ∈ accL f n ↔ 0 ≤ p.1 ∧ p.1 < n ∧ 0 ≤ f p.1 ∧ p.2 = f p.1 := by
  simp only [accL, List.mem_filterMap, List.mem_range]
  constructor
  · rintro ⟨k, hk, e⟩
    split at e
    · rename_i hf
      injection e with e
      subst e
      exact ⟨by simp, by simpa using hk, hf, rfl⟩
    · cases e
  · rintro ⟨h0, h1, h2, h3⟩
    refine ⟨p.1.toNat, by omega, ?_⟩
    have e : ((p.1.toNat : Nat) : Int) = p.1 := by omega
    rw [e, if_pos h2, ← h3]
theorem acc_sorted (f : Int → Int) : ∀ n, (accL f n).Pairwise ltK
  | 0 => by simp [accL]
  | n + 1 => by
    rw [accL_succ, List.pairwise_append]
    refine ⟨acc_sorted f n, by split <;> simp, fun a ha b hb => ?_⟩
    have h1 := (acc_mem.1 ha).2.1
    split at hb
    · simp at hb; subst hb; exact h1
    · simp at hb
theorem acc_mapB {f : Int → Int} {n : Nat} (hn : n ≤ 16) (hf : ∀ k, f k ≤ 9999) : mapB (accL f n) = true := by
  refine pair_mapB (fun p hp => ?_) (acc_sorted f n)
  obtain ⟨h1, h2, h3, h4⟩ := acc_mem.1 hp
  have := hf p.1
  exact ⟨⟨h1, by omega⟩, by omega, by omega⟩
/-- the value of a key in a sorted list -/
theorem vIn_mem : ∀ {l : List (Int × Int)}, l.Pairwise ltK → ∀ {p : Int × Int}, p ∈ l → vIn l p.1 = p.2
  | q :: r, h, p, hp => by
    obtain ⟨h1, h2⟩ := List.pairwise_cons.1 h
    rw [vIn]
    rcases List.mem_cons.1 hp with e | e
    · subst e; rw [if_pos rfl]
    · have : q.1 < p.1 := h1 _ e
      rw [if_neg (by omega)]
      exact vIn_mem h2 e
theorem vIn_out : ∀ {l : List (Int × Int)} {k : Int}, (∀ p ∈ l, p.1 ≠ k) → vIn l k = -1
  | [], _, _ => rfl
  | q :: r, k, h => by rw [vIn, if_neg (h q (by simp))]; exact vIn_out (fun p hp => h p (by simp [hp]))
theorem vIn_acc (f : Int → Int) (n : Nat) (k : Int) : vIn (accL f n) k = if 0 ≤ k ∧ k < n ∧ 0 ≤ f k then f k else -1 := by
  by_cases h : 0 ≤ k ∧ k < n ∧ 0 ≤ f k
  · rw [if_pos h]
    exact vIn_mem (p := (k, f k)) (acc_sorted f n) (acc_mem.2 ⟨h.1, h.2.1, h.2.2, rfl⟩)
  · rw [if_neg h]
    refine vIn_out (fun p hp e => h ?_)
    obtain ⟨h1, h2, h3, _⟩ := acc_mem.1 hp
    rw [e] at h1 h2 h3
    exact ⟨h1, h2, h3⟩
end Go.Proofs.Ytlbmcdoldnajoab
namespace Go.Proofs.Ytlbmcdoldnajoab
open Go.RowKit
def fL : List St := [⟨1, 0, 7, 0⟩, ⟨3, 3, 0, 0⟩, ⟨11, 0, 0, 0⟩]
theorem f_e0 : runErr fL [] 3 = 0 := by decide
theorem f_e1 : runSt fL [] 3 = 3 := by decide
theorem f_e2 : runTold fL [] 3 = [7] := by decide
theorem f_e3 : runMap fL [] 3 = [(3, 7)] := by decide
set_option maxRecDepth 100000 in
set_option maxHeartbeats 1000000 in
theorem first_any (w : World) :
    Calls Try.prog 9 #[] w fun e w' => ∃ b, e = .returned (.slice (some ⟨b, 0, none⟩) 3 3) ∧ StepsV w' (.slice (some ⟨b, 0, none⟩) 3 3) fL ∧ Below w.heap.size w w' := by
  go_enter Try.func9, Try.ntmps9
  go_wp2
  go_ret
  exact ⟨w.heap.size, rfl, stepsV_blk (heap_alloc_new _ _) _ rfl, (Below.refl _ _).alloc (Nat.le_refl _) _⟩
set_option maxRecDepth 100000 in
set_option maxHeartbeats 1000000 in
theorem ended_any (st tr er : Int) (tv : Value) (w : World) (htv : ∃ ao n cap, tv = .slice ao n cap) :
    Calls Try.prog 10 #[.agg #[.int .i64 st, tv, .int .i64 tr], .int .i64 er] w fun e w' => e = .returned (.bool (decide (er = 0) && decide (tr = 1) && (decide (st = 3) || decide (st = 4) || decide (st = 5)))) ∧ Below w.heap.size w w' := by
  obtain ⟨ao, n, cap, rfl⟩ := htv
  rcases (show (¬ er = 0) ∨ (er = 0 ∧ ¬ tr = 1) ∨ (er = 0 ∧ tr = 1 ∧ st = 3) ∨ (er = 0 ∧ tr = 1 ∧ ¬ st = 3 ∧ st = 4) ∨ (er = 0 ∧ tr = 1 ∧ ¬ st = 3 ∧ ¬ st = 4 ∧ st = 5) ∨ (er = 0 ∧ tr = 1 ∧ ¬ st = 3 ∧ ¬ st = 4 ∧ ¬ st = 5) from by omega) with k | ⟨rfl, k⟩ | ⟨rfl, rfl, rfl⟩ | ⟨rfl, rfl, k, rfl⟩ | ⟨rfl, rfl, k, k', rfl⟩ | ⟨rfl, rfl, k, k', k''⟩
  all_goals
    go_enter Try.func10, Try.ntmps10
    go_wp2
    go_ret
    refine ⟨ret_bool ?_, (Below.refl _ _).alloc (Nat.le_refl _) _⟩
    simp [*]
end Go.Proofs.Ytlbmcdoldnajoab
namespace Go.Proofs.Ytlbmcdoldnajoab
open Go.RowKit
theorem owns_some {w : World} {B : Nat} {e : TypeId} {s : Nat} {v : Value} {n : Nat} {xs : List Value} (h : w.ownsRow B e s v n xs) (hn : 0 < n) : ∃ g cap, v = .slice (some ⟨g, 0, none⟩) n cap ∧ g < w.heap.size := by
  rcases h.2 with ⟨_, h0⟩ | ⟨g, cap, cur, rfl, _, hh, _⟩
  · omega
  · exact ⟨g, cap, rfl, blk_lt hh⟩
set_option maxRecDepth 100000 in
set_option maxHeartbeats 4000000 in
theorem plain_any (hrun : RunOK) (w : World) :
    Calls Try.prog 4 #[] w fun e w' => e = .returned (.bool true) ∧ Below w.heap.size w w' := by
  have HR : Hid RunOK := hrun
  clear hrun
  go_enter Try.func4, Try.ntmps4
  go_wp2_with fail
  refine (first_any w).mono ?_
  rintro e X ⟨b, rfl, hs, hb⟩
  have HS : Hid (StepsV X (.slice (some ⟨b, 0, none⟩) 3 3) fL) := hs
  have HB : Hid (Below w.heap.size w X) := hb
  clear hs hb
  go_wp2_with fail
  refine (HR.out _ _ fL [] 3 X HS.out (pairsV_nil _ _)).mono ?_
  rintro e W1 ⟨tv, av, rfl, h1, h2, h3⟩
  rw [f_e2] at h1
  rw [f_e3] at h2
  have e4 : runTries fL [] 3 = 1 := by simp [runTries, f_e0]
  rw [f_e0, f_e1, e4]
  have h1' : W1.ownsRow X.heap.size 3 1 tv 1 [.int .i64 7] := h1
  have h2' : W1.ownsRow X.heap.size 46 2 av 1 [.int .i64 3, .int .i64 7] := h2
  obtain ⟨gt, tc, rfl, lt⟩ := owns_some h1' (by omega)
  obtain ⟨ga, ac, rfl, la⟩ := owns_some h2' (by omega)
  have t0 : W1.cell? ⟨gt, 0, none⟩ = some (.int .i64 7) := by rw [h1'.cellAt 0 (by omega)]; rfl
  have a0 : W1.cell? ⟨ga, 0, none⟩ = some (.int .i64 3) := by rw [h2'.cellAt 0 (by omega)]; rfl
  have a1 : W1.cell? ⟨ga, 1, none⟩ = some (.int .i64 7) := by rw [h2'.cellAt 1 (by omega)]; rfl
  have H3 : Hid (Below X.heap.size X W1) := h3
  clear h1 h2 h1' h2' h3 e4
  go_wp2_with fail
  refine name_calls (p := fun Y => Below W1.heap.size W1 Y ∧ Y.heap[W1.heap.size]? = some (.cells #[.int .i64 3, .slice (some ⟨gt, 0, none⟩) 1 tc, .int .i64 1] 37 (0, 0))) ⟨(Below.refl _ _).alloc (Nat.le_refl _) _, heap_alloc_new _ _⟩ ?_
  rintro Y ⟨y1, y2⟩
  have hlt := blk_lt y2
  refine (ended_any _ _ _ _ Y ⟨_, _, _, rfl⟩).mono ?_
  rintro e Z ⟨rfl, b1⟩
  have hz1 := y1.size
  have hz2 := b1.size
  have c0 : Z.cell? ⟨W1.heap.size, 0, none⟩ = some (.int .i64 3) := by rw [b1.cell (show W1.heap.size < _ from hlt), blk_cell y2]; rfl
  have c1 : Z.cell? ⟨W1.heap.size, 1, none⟩ = some (.slice (some ⟨gt, 0, none⟩) 1 tc) := by rw [b1.cell (show W1.heap.size < _ from hlt), blk_cell y2]; rfl
  have d0 : Z.cell? ⟨gt, 0, none⟩ = some (.int .i64 7) := by rw [b1.cell (show gt < _ from by omega), y1.cell (show gt < _ from lt)]; exact t0
  have d1 : Z.cell? ⟨ga, 0, none⟩ = some (.int .i64 3) := by rw [b1.cell (show ga < _ from by omega), y1.cell (show ga < _ from la)]; exact a0
  have d2 : Z.cell? ⟨ga, 1, none⟩ = some (.int .i64 7) := by rw [b1.cell (show ga < _ from by omega), y1.cell (show ga < _ from la)]; exact a1
  have HE : Hid (Below w.heap.size w Z) := by
    have s := HB.out.size
    have s2 := H3.out.size
    exact ((HB.out.trans (H3.out.mono s)).trans (y1.mono (by omega))).trans (b1.mono (by omega))
  clear t0 a0 a1 y1 y2 b1
  go_wp2
  go_ret
  exact ⟨rfl, HE.out⟩
end Go.Proofs.Ytlbmcdoldnajoab
namespace Go.Proofs.Ytlbmcdoldnajoab
open Go.RowKit
theorem stepsV_own {w : World} {B : Nat} {v : Value} {l : List St} (h : w.ownsRow B 78 4 v l.length (stCells l)) : StepsV w v l := by
  rcases h.2 with ⟨rfl, h0⟩ | ⟨g, cap, cur, rfl, _, hh, h1, _, h2, h3⟩
  · obtain rfl : l = [] := List.eq_nil_of_length_eq_zero h0
    exact ⟨none, 0, rfl, Or.inl rfl⟩
  · refine ⟨_, cap, rfl, Or.inr ⟨g, 0, rfl, blk_lt hh, stepsAt_of_row (rest := cur.toList.drop (l.length * 4)) (t := 78) (fr := (0, 0)) ?_⟩⟩
    rw [hh, ← h3, List.take_append_drop]
theorem mkSt_ok (x0 x1 x2 x3 : Int) (i n : Nat) : stB (mkSt x0 x1 x2 x3 i n 0 16) i n = true := by
  have a1 := pickI_lo x0 (n := 12) (by omega)
  have a2 := pickI_hi x0 (n := 12) (by omega)
  have b1 := pickI_lo x1 (n := 4) (by omega)
  have b2 := pickI_hi x1 (n := 4) (by omega)
  have c1 := pickI_lo x2 (n := 16) (by omega)
  have c2 := pickI_hi x2 (n := 16) (by omega)
  have d1 := pickI_lo x3 (n := 16) (by omega)
  have d2 := pickI_hi x3 (n := 16) (by omega)
  have e1 := pickI_lo x2 (n := 1000) (by omega)
  have e2 := pickI_hi x2 (n := 1000) (by omega)
  have f1 := pickI_lo x2 (n := 4) (by omega)
  have f2 := pickI_hi x2 (n := 4) (by omega)
  unfold mkSt
  simp only
  generalize pickI x0 12 = y at *
  rcases (show y = 0 ∨ y = 1 ∨ y = 2 ∨ y = 3 ∨ y = 4 ∨ y = 5 ∨ y = 6 ∨ y = 7 ∨ y = 8 ∨ y = 9 ∨ y = 10 ∨ y = 11 by omega) with rfl | rfl | rfl | rfl | rfl | rfl | rfl | rfl | rfl | rfl | rfl | rfl
  · simp [stB, stepB, regB, inB]; omega
  · simp [stB, stepB, regB, keyB]; omega
  · simp [stB, stepB, regB, keyB]; omega
  · simp [stB, stepB, keyB]; omega
  · simp; split <;> (simp [stB, stepB, regB, keyB]; omega)
  · simp; split <;> (simp [stB, stepB, regB, keyB]; omega)
  · simp [stB, stepB, regB]; omega
  · simp [stB, stepB, regB]; omega
  · simp
    split
    · simp [stB, stepB, regB]; omega
    · have g1 := pickI_lo x2 (n := (n : Int) - i - 1) (by omega)
      have g2 := pickI_hi x2 (n := (n : Int) - i - 1) (by omega)
      simp [stB, stepB, regB, inB]; omega
  · simp
    split
    · simp [stB, stepB, regB]; omega
    · have g1 := pickI_lo x2 (n := (i : Int)) (by omega)
      have g2 := pickI_hi x2 (n := (i : Int)) (by omega)
      simp [stB, stepB, regB, inB]; omega
  · simp [stB, stepB, regB]; omega
  · simp [stB, stepB]
theorem mkL_len (xs : List Int) (lo kn : Int) : (mkL xs lo kn).length = mkN xs := mkT_len _ _ _ _ _
theorem mkL_job (xs : List Int) : jobB (mkL xs 0 16) = true := by
  have hl := mkL_len xs 0 16
  have h32 : mkN xs ≤ 32 := Nat.min_le_left _ _
  simp only [jobB, Bool.and_eq_true, decide_eq_true_eq, List.all_eq_true, List.mem_range]
  refine ⟨by omega, fun i hi => ?_⟩
  rw [hl] at hi ⊢
  have e : (mkL xs 0 16).getD i stz = stAtL xs (mkN xs) 0 16 i := by simp [mkL, mkT, List.getD, hi]
  rw [e]
  exact mkSt_ok _ _ _ _ i (mkN xs)
/-- all that a good run hands back, plainly -/
theorem run_facts {l : List St} {ml : List (Int × Int)} {f : Int} (hj : jobB l = true) (hm : mapB ml = true) (h1 : 1 ≤ f) (h2 : f ≤ 200) :
    runErr l ml f = 0 ∧ runTries l ml f = 1 ∧ runSt l ml f = endState l (runMo l ml f) ∧ runTold l ml f = (runMo l ml f).told ∧ runMap l ml f = listOf (mapAfter l (vIn ml) (runMo l ml f)) := by
  have h := runErr_ok (l := l) (ml := ml) hj hm h1 h2
  simp [runTries, runSt, runTold, runMap, h]
/-- the length of a list that came in is within its room -/
theorem open_room {H : Type} {enc : TypeId × Value → H} {w : World} {base : Nat} {spare : Nat → Bool} {held : Bool} {t e : TypeId} {fuel : Nat} {v : Value} {x : DataW H × List MemPlace} (ht : Try.prog.underlying t = some (.slice e)) (h : DataW.trod enc Try.prog w base spare held fuel t [v] = some x) :
    ∀ ao n cap, v = .slice ao n cap → n ≤ cap := by
  intro ao n cap hv
  rcases Go.Deep.open_slice ht h with ⟨hc, _⟩ | ⟨a, len, cap', m, n', D, Pl, hc, hb, hl, hm, hmm, hx, hall⟩
  · rw [hv] at hc; simp at hc; omega
  · rw [hv] at hc; simp at hc; omega
end Go.Proofs.Ytlbmcdoldnajoab
