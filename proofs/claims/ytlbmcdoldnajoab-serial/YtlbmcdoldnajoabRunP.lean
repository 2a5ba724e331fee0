import Derived.Test.YtlbmcdoldnajoabRefD
import Derived.Test.YtlbmcdoldnajoabEngB
import Derived.Test.YtlbmcdoldnajoabRefRun

namespace Go.Proofs.Ytlbmcdoldnajoab
open Go.RowKit
def i64B (c : Int) : Prop := -9223372036854775808 ≤ c ∧ c ≤ 9223372036854775807
def pickI (c n : Int) : Int := (if c < 0 then -(c + 1) else c) % n
theorem pickI_lo (c : Int) {n : Int} (h : 0 < n) : 0 ≤ pickI c n := Int.emod_nonneg _ (by omega)
theorem pickI_hi (c : Int) {n : Int} (h : 0 < n) : pickI c n < n := Int.emod_lt_of_pos _ h
set_option maxRecDepth 100000 in
set_option maxHeartbeats 400000 in
theorem pick_any (c n : Int) (w : World) (hc : i64B c) (h0 : 0 < n) (h1 : n ≤ 1000000000) :
    Calls Try.prog 30 #[.int .i64 c, .int .i64 n] w fun e w' => e = .returned (.int .i64 (pickI c n)) ∧ w' = w := by
  obtain ⟨hc0, hc1⟩ := hc
  have hn0 : ¬ n = 0 := by omega
  by_cases hc : c < 0
  · have hw1 : IntKind.i64.wrap (c + 1) = c + 1 := by rw [IntKind.wrap_i64]; omega
    have hw2 : IntKind.i64.wrap (-(c + 1)) = -(c + 1) := by rw [IntKind.wrap_i64]; omega
    have hw3 : IntKind.i64.wrap ((-(c + 1)).tmod n) = (-(c + 1)).tmod n := by
      rw [Int.tmod_eq_emod_of_nonneg (by omega)]
      have := Int.emod_nonneg (-(c + 1)) hn0
      have := Int.emod_lt_of_pos (-(c + 1)) h0
      rw [IntKind.wrap_i64]; omega
    go_enter Try.func30, Try.ntmps30
    go_wp2
    go_ret
    exact ⟨ret_int (by rw [← Int.neg_tmod, Int.tmod_eq_emod_of_nonneg (by omega)]; simp only [pickI, if_pos hc]), rfl⟩
  · go_enter Try.func30, Try.ntmps30
    go_wp2
    go_ret
    exact ⟨ret_int (by simp only [pickI, if_neg (show ¬ c < 0 by omega)]), rfl⟩
end Go.Proofs.Ytlbmcdoldnajoab
namespace Go.Proofs.Ytlbmcdoldnajoab
open Go.RowKit
set_option maxRecDepth 100000 in
set_option maxHeartbeats 400000 in
theorem every_any (w : World) :
    Calls Try.prog 32 #[] w fun e w' => e = .returned (.agg #[.int .i64 0, .int .i64 16]) ∧ Below w.heap.size w w' := by
  go_enter Try.func32, Try.ntmps32
  go_wp2
  exact bodyPost_ret (v := .agg #[.int .i64 0, .int .i64 16]) (by simp [results, Try.results32, go_sem]) rfl ⟨rfl, (Below.refl _ _).alloc (Nat.le_refl _) _⟩
end Go.Proofs.Ytlbmcdoldnajoab
namespace Go.Proofs.Ytlbmcdoldnajoab
open Go.RowKit
theorem stepsV_blk {X : World} {b : Nat} {l : List St} {t : TypeId} {fr : Nat × Nat} (h : X.heap[b]? = some (.cells (stCells l).toArray t fr)) (n : Nat) (hn : n = l.length) : StepsV X (.slice (some ⟨b, 0, none⟩) n n) l := by
  subst hn
  exact ⟨_, _, rfl, Or.inr ⟨b, 0, rfl, blk_lt h, stepsAt_of_row (rest := []) (by simpa using h)⟩⟩
theorem pairsV_nil (X : World) (B : Nat) : PairsV X B (.slice none 0 0) [] := ⟨none, 0, rfl, Nat.zero_le _, Or.inl rfl⟩
theorem new_old {w : World} {o : Obj} {b : Nat} {x : Obj} (h : w.heap[b]? = some x) : (w.alloc o).heap[b]? = some x := (Below.heap_alloc w o b (blk_lt h)).trans h
theorem new_1 (w : World) (a o : Obj) : ((w.alloc a).alloc o).heap[w.heap.size + 1]? = some o := by have := heap_alloc_new (w.alloc a) o; rwa [World.size_alloc] at this
end Go.Proofs.Ytlbmcdoldnajoab
namespace Go.Proofs.Ytlbmcdoldnajoab
open Go.RowKit
attribute [local go_sem ↓] wStM wStR wLdM wLdR
/-- a map in a block of its own -/
def spM (b : Nat) : Spot := ⟨b, 0, [], [], 63⟩
theorem MapBlk.in {w : World} {b : Nat} {f : Int → Int} (h : MapBlk w b f) : MapIn w (spM b) f := ⟨rfl, by simpa [spM, MapBlk] using h⟩
theorem MapIn.block {w : World} {b : Nat} {f : Int → Int} (h : MapIn w (spM b) f) : MapBlk w b f := by simpa [spM, MapBlk] using h.blk
/-- what job.Run has laid: the result's box, the map's, the run's -/
structure RI (w : World) (mb px : Nat) (f0 : Int → Int) (tv : Value) (st : Int) (y : Mo) (f : Int → Int) (W : World) : Prop where
  out : W.heap[w.heap.size]? = some (.cells #[.int .i64 0, .slice none 0 0, .int .i64 0] 37 (0, 0))
  map : MapBlk W mb f0
  eng : Eng (fun _ => True) W (sp0 px) tv st y f
  bel : Below w.heap.size w W
theorem RI.fr {w : World} {mb px : Nat} {f0 : Int → Int} {tv : Value} {st : Int} {y : Mo} {f : Int → Int} {W W' : World} {S : Nat → Prop} (h : RI w mb px f0 tv st y f W) (hf : Fr S W W') (hS : ∀ k, (k < w.heap.size ∨ k = w.heap.size ∨ k = mb ∨ k = px ∨ tv.ownBlock = some k) → ¬ S k) : RI w mb px f0 tv st y f W' :=
  ⟨hf.blk h.out (hS _ (Or.inr (Or.inl rfl))), hf.blk h.map (hS _ (Or.inr (Or.inr (Or.inl rfl)))), h.eng.fr hf (fun k hk => hS k (hk.elim (fun e => Or.inr (Or.inr (Or.inr (Or.inl e)))) (fun e => Or.inr (Or.inr (Or.inr (Or.inr e)))))),
    h.bel.trans (hf.below (fun k hk => Nat.le_of_not_lt (fun hlt => hS k (Or.inl hlt) hk)) h.bel.size)⟩
theorem RI.below {w : World} {mb px : Nat} {f0 : Int → Int} {tv : Value} {st : Int} {y : Mo} {f : Int → Int} {W W' : World} (h : RI w mb px f0 tv st y f W) (hb : Below W.heap.size W W') : RI w mb px f0 tv st y f W' := h.fr (S := fun _ => False) (Fr.of_below hb) (fun _ _ hs => hs)
/-- the map written over -/
theorem RI.map' {w : World} {mb px : Nat} {f0 f1 : Int → Int} {tv : Value} {st : Int} {y : Mo} {f : Int → Int} {W W' : World} (h : RI w mb px f0 tv st y f W) (hm : MapBlk W' mb f1) (hf : Fr (fun k => k = mb) W W') (n1 : w.heap.size < mb) (n2 : mb ≠ px) : RI w mb px f1 tv st y f W' :=
  ⟨hf.blk h.out (by omega), hm, h.eng.fr hf (fun k hk e => by
      rcases hk with hk | hk
      · exact n2 (e.symm.trans hk)
      · exact owns_ne h.eng.told h.map (by decide) (e ▸ hk)), h.bel.trans (hf.below (fun k hk => by omega) h.bel.size)⟩
theorem out_facts {W : World} {b : Nat} (h : W.heap[b]? = some (.cells #[.int .i64 0, .slice none 0 0, .int .i64 0] 37 (0, 0))) :
    W.cell? ⟨b, 0, none⟩ = some (.int .i64 0) ∧ W.cell? ⟨b, 1, none⟩ = some (.slice none 0 0) ∧ W.cell? ⟨b, 2, none⟩ = some (.int .i64 0) ∧ (∀ i, W.frozen? ⟨b, i, none⟩ = false) :=
  ⟨by rw [blk_cell h]; rfl, by rw [blk_cell h]; rfl, by rw [blk_cell h]; rfl, fun _ => blk_free h⟩
theorem ran_okE {l : List St} {ml : List (Int × Int)} {fuel : Int} {w W WA : World} {mb px : Nat} {f0 : Int → Int} {tv : Value} {st st' : Int} {y : Mo} {f : Int → Int} {B2 : Nat} {tv2 av a b c : Value} (herr : runErr l ml fuel = 0)
    (h : RI w mb px f0 tv st y f W) (ht : W.ownsRow B2 3 1 tv2 y.told.length (y.told.map (Value.int .i64))) (hB2 : w.heap.size < B2) (hb : Below W.heap.size W WA) (hav : WA.ownsRow W.heap.size 46 2 av (listOf f0).length (prCells (listOf f0))) (hst : st' = endState l (runMo l ml fuel)) (hy : y = runMo l ml fuel) (hf : f0 = mapAfter l (vIn ml) (runMo l ml fuel)) :
    Ran l ml fuel w (.returned (.tuple #[.agg #[.int .i64 st', tv2, .int .i64 1], av, .int .i64 0])) (((WA.setCell ⟨w.heap.size, 0, none⟩ a).setCell ⟨w.heap.size, 1, none⟩ b).setCell ⟨w.heap.size, 2, none⟩ c) := by
  have hA := h.below hb
  have l1 := blk_lt h.out
  have htn : tv2.ownBlock ≠ some w.heap.size := fun e => by have := owns_ge ht e; omega
  have han : av.ownBlock ≠ some w.heap.size := fun e => by have := owns_ge hav e; omega
  refine ⟨tv2, av, ?_, ?_, ?_, ((hA.bel.setCell (p := ⟨w.heap.size, _, none⟩) (Nat.le_refl _) _).setCell (p := ⟨w.heap.size, _, none⟩) (Nat.le_refl _) _).setCell (p := ⟨w.heap.size, _, none⟩) (Nat.le_refl _) _⟩
  · simp [runSt, runTries, herr, hst]
  · simp only [runTold, herr, if_true]
    rw [← hy]
    exact owns_set (owns_set (owns_set (owns_base (owns_keep ht hb) (Nat.le_of_lt hB2)) htn _ _) htn _ _) htn _ _
  · simp only [runMap, herr, if_true]
    rw [← hf]
    exact owns_set (owns_set (owns_set (owns_base hav (Nat.le_of_lt l1)) han _ _) han _ _) han _ _
set_option maxRecDepth 100000 in
set_option maxHeartbeats 1000000 in
theorem run_at (v mv : Value) (l : List St) (ml : List (Int × Int)) (fuel : Int) (w : World) (hs : StepsV w v l) (hm : PairsV w w.heap.size mv ml) :
    Calls Try.prog 8 #[v, mv, .int .i64 fuel] w fun e w' => Ran l ml fuel w e w' := by
  have HS : Hid (StepsV w v l) := hs
  have HM : Hid (PairsV w w.heap.size mv ml) := hm
  clear hs hm
  have hb0 : Below w.heap.size w (w.alloc (.cells #[.int .i64 0, .slice none 0 0, .int .i64 0] 37)) := (Below.refl _ _).alloc (Nat.le_refl _) _
  have HB0 : Hid (Below w.heap.size w (w.alloc (.cells #[.int .i64 0, .slice none 0 0, .int .i64 0] 37))) := hb0
  clear hb0
  go_enter Try.func8, Try.ntmps8
  go_wp2_with fail
  refine (check_any _ l _ (HS.out.below HB0.out)).mono ?_
  rintro e W1 ⟨rfl, hb1⟩
  have hobj : W1.heap[w.heap.size]? = some (.cells #[.int .i64 0, .slice none 0 0, .int .i64 0] 37 (0, 0)) := (hb1.block _ (by simp)).trans (heap_alloc_new w _)
  have o0 : W1.cell? ⟨w.heap.size, 0, none⟩ = some (.int .i64 0) := by rw [blk_cell hobj]; rfl
  have o1 : W1.cell? ⟨w.heap.size, 1, none⟩ = some (.slice none 0 0) := by rw [blk_cell hobj]; rfl
  have o2 : W1.cell? ⟨w.heap.size, 2, none⟩ = some (.int .i64 0) := by rw [blk_cell hobj]; rfl
  have of : ∀ i, W1.frozen? ⟨w.heap.size, i, none⟩ = false := fun i => blk_free hobj
  have HB1 : Hid (Below w.heap.size w W1) := HB0.out.trans (hb1.mono (by simp))
  have HO1 : Hid (W1.heap[w.heap.size]? = some (.cells #[.int .i64 0, .slice none 0 0, .int .i64 0] 37 (0, 0))) := hobj
  clear hobj hb1
  cases hj : jobB l
  · have hc : checkN l = 1 := by simp [checkN, hj]
    rw [hc]
    go_wp2
    exact bodyPost_ret (v := .tuple #[.agg #[.int .i64 0, .slice none 0 0, .int .i64 0], .slice none 0 0, .int .i64 1]) (by simp [results, Try.results8, go_sem, o0, o1, o2]) rfl (ran_err (runErr_job hj) (by decide) (((HB1.out.setCell (p := ⟨w.heap.size, _, none⟩) (Nat.le_refl _) _).setCell (p := ⟨w.heap.size, _, none⟩) (Nat.le_refl _) _).setCell (p := ⟨w.heap.size, _, none⟩) (Nat.le_refl _) _))
  · have hc : checkN l = 0 := by simp [checkN, hj]
    rw [hc]
    go_wp2_with fail
    refine (from_any _ ml _ (PairsV.wide (HM.out.below HB1.out (Nat.le_refl _)) HB1.out.size)).mono ?_
    rintro e W2 ⟨rfl, hb2⟩
    have hlt1 : w.heap.size < W1.heap.size := World.block_lt_of_cell? W1 _ o0
    have HO2 : Hid (W2.heap[w.heap.size]? = some (.cells #[.int .i64 0, .slice none 0 0, .int .i64 0] 37 (0, 0))) := (hb2.block _ hlt1).trans HO1.out
    have HB2 : Hid (Below w.heap.size w W2) := HB1.out.trans (hb2.mono HB1.out.size)
    obtain ⟨f0, hf0⟩ : ∃ f0, f0 = (if mapB ml = true then vIn ml else fun _ => -1) := ⟨_, rfl⟩
    have HF0 : Hid (f0 = if mapB ml = true then vIn ml else fun _ => -1) := hf0
    rw [← hf0]
    obtain ⟨cs, hcs⟩ : ∃ cs, cs = (mapCells f0).toArray := ⟨_, rfl⟩
    have HC : Hid (cs = (mapCells f0).toArray) := hcs
    rw [← hcs]
    clear hb2 o0 o1 o2 of hf0 hcs hlt1 HO1
    go_wp2
    refine wp_stN (T := 63) W2.heap.size (by rfl) (by rfl) (by rfl) (by exact heap_alloc_new _ _) (by rw [Try.sizeMap, HC.out]; simp [length_mapCells]) (by rw [HC.out]; simp [length_mapCells]) (by rw [HC.out]; exact mapCells_one _) ?_
    rintro W3 hW3 hF3
    have hlt2 := blk_lt HO2.out
    have HO3 : Hid (W3.heap[w.heap.size]? = some (.cells #[.int .i64 0, .slice none 0 0, .int .i64 0] 37 (0, 0))) := (hF3.block _ (by simp; omega) (by omega)).trans (new_old HO2.out)
    have HM3 : Hid (MapBlk W3 W2.heap.size f0) := by rw [HC.out] at hW3; exact hW3
    have HB3 : Hid (Below w.heap.size w W3) := (HB2.out.alloc (Nat.le_of_lt hlt2) _).trans (hF3.below (fun k hk => by omega) (by simp; omega))
    clear hW3 hF3 hlt2
    have o0 : W3.cell? ⟨w.heap.size, 0, none⟩ = some (.int .i64 0) := by rw [blk_cell HO3.out]; rfl
    have o1 : W3.cell? ⟨w.heap.size, 1, none⟩ = some (.slice none 0 0) := by rw [blk_cell HO3.out]; rfl
    have o2 : W3.cell? ⟨w.heap.size, 2, none⟩ = some (.int .i64 0) := by rw [blk_cell HO3.out]; rfl
    have of : ∀ i, W3.frozen? ⟨w.heap.size, i, none⟩ = false := fun i => blk_free HO3.out
    cases hmb : mapB ml
    · go_wp2
      exact bodyPost_ret (v := .tuple #[.agg #[.int .i64 0, .slice none 0 0, .int .i64 0], .slice none 0 0, .int .i64 2]) (by simp [results, Try.results8, go_sem, o0, o1, o2]) rfl (ran_err (runErr_map hj hmb) (by decide) (((HB3.out.setCell (p := ⟨w.heap.size, _, none⟩) (Nat.le_refl _) _).setCell (p := ⟨w.heap.size, _, none⟩) (Nat.le_refl _) _).setCell (p := ⟨w.heap.size, _, none⟩) (Nat.le_refl _) _))
    · by_cases hf : 1 ≤ fuel ∧ fuel ≤ 200
      · have hfb : inB fuel 1 200 = true := by simp [inB, hf]
        go_wp2_with (go_at_call 20; refine (isWithin_any _ _ _ _).mono ?_; rintro e w' ⟨rfl, h⟩; obtain rfl := h.symm; clear h; rw [hfb])
        refine wp_ldN (T := 63) W2.heap.size 0 (by rfl) (by rfl) (cs := mapCells f0) (by exact HM3.out.at) (by exact Try.underlying63) (by rfl) (by rw [Try.sizeMap, length_mapCells]) ?_
        rw [← HC.out]
        clear o0 o1 o2 of
        go_wp2_with fail
        have hf0 : f0 = vIn ml := by rw [HF0.out, hmb]; rfl
        obtain ⟨fn, rfl⟩ : ∃ fn : Nat, fuel = fn := ⟨fuel.toNat, by omega⟩
        obtain ⟨ao, cap, hv, hsl⟩ := HS.out.below HB3.out
        rw [hv, HC.out]
        refine (end_any ao cap l f0 fn W3 hj hsl (by rw [hf0]; exact vIn_le hmb) (by omega)).mono ?_
        rintro e W4 ⟨tv, rfl, hl4, hd4, htold, hb4⟩
        obtain ⟨y, hy⟩ : ∃ y, y = play l f0 fn mo0 := ⟨_, rfl⟩
        have HY : Hid (y = play l (vIn ml) fn mo0) := by rw [hy, hf0]; rfl
        have htl : y.told.length ≤ 1000 := by have := play_told l f0 fn mo0; rw [← hy] at this; simp [mo0] at this; omega
        rw [← hy] at hl4 hd4 htold ⊢
        obtain ⟨st, hst⟩ : ∃ st, st = endState l y := ⟨_, rfl⟩
        have HST : Hid (st = endState l y) := hst
        rw [← hst]
        obtain ⟨f, hf⟩ : ∃ f, f = see f0 y.puts := ⟨_, rfl⟩
        have HFF : Hid (f = see (vIn ml) y.puts) := by rw [hf, hf0]; rfl
        rw [← hf]
        obtain ⟨rs, hrs⟩ : ∃ rs, rs = (engCells st y f tv).toArray := ⟨_, rfl⟩
        have HR : Hid (rs = (engCells st y f tv).toArray) := hrs
        have hH4 : Hid (W4.ownsRow W3.heap.size 3 1 tv y.told.length (y.told.map (Value.int .i64)) ∧ Below W3.heap.size W3 W4 ∧ y.regs.length = 4 ∧ y.read.length = 16) := ⟨htold, hb4, hl4, hd4⟩
        rw [← hrs, ← hv, ← HC.out]
        clear hy hst hf hrs htold hb4 hl4 hd4 hv hsl hf0
        go_wp2
        refine wp_stN (T := 71) W4.heap.size (by rfl) (by rfl) (by rfl) (by exact heap_alloc_new _ _) (by rw [Try.sizeRun, HR.out]; simp [engCells_len hH4.out.2.2.1 hH4.out.2.2.2]) (by rw [HR.out]; simp [engCells_len hH4.out.2.2.1 hH4.out.2.2.2]) (by rw [HR.out]; exact engCells_one _ _ _ (by obtain ⟨ao, cap, h⟩ := owns_form hH4.out.1; exact ⟨_, _, _, h⟩)) ?_
        rintro W5 hW5 hF5
        have HI : Hid (RI w W2.heap.size W4.heap.size f0 tv st y f W5 ∧ w.heap.size < W2.heap.size ∧ W2.heap.size ≠ W4.heap.size) := by
          have hlt3 := blk_lt HO3.out
          have hm3 := blk_lt HM3.out
          have hs4 := hH4.out.2.1.size
          have hlt2 := blk_lt HO2.out
          have hF45 : Fr (fun k => k = W4.heap.size) W4 W5 := ⟨hF5.os, hF5.tape, hF5.output, by have := hF5.size; simp at this; omega, fun k hk hs => (hF5.block k (by simp; omega) hs).trans (Below.heap_alloc _ _ _ hk)⟩
          refine ⟨⟨hF45.blk ((hH4.out.2.1.block _ hlt3).trans HO3.out) (by omega), hF45.blk ((hH4.out.2.1.block _ hm3).trans HM3.out) (by omega), ⟨trivial, fun _ _ => trivial, rfl, (by show (3 : TypeId) ≠ 71; decide), by rw [show (sp0 W4.heap.size).pre ++ engCells st y f tv ++ (sp0 W4.heap.size).post = engCells st y f tv by simp [sp0], ← HR.out]; exact hW5, hH4.out.2.2.1, hH4.out.2.2.2, owns_base (owns_fr hH4.out.1 hF45 (fun k hk hs => by have := (owns_lt hH4.out.1 hk).2; omega)) (Nat.zero_le _)⟩, (HB3.out.trans (hH4.out.2.1.mono HB3.out.size)).trans (hF45.below (fun k hk => by omega) (by omega))⟩, hlt2, by omega⟩
        clear hW5 hF5
        go_wp2_with fail
        refine (apply_any (fun _ => True) W5 (sp0 W4.heap.size) (spM W2.heap.size) tv st y (vIn ml) f0 (by rw [← HFF.out]; exact HI.out.1.eng) HI.out.1.map.in HI.out.2.2).mono ?_
        rintro e W6 ⟨rfl, hM6, hF6⟩
        obtain ⟨f1, hf1⟩ : ∃ f1, f1 = (if st = 3 then see f0 y.puts else f0) := ⟨_, rfl⟩
        have HF1 : Hid (f1 = if st = 3 then see f0 y.puts else f0) := hf1
        rw [← hf1] at hM6
        have HI6 : Hid (RI w W2.heap.size W4.heap.size f1 tv st y f W6) := HI.out.1.map' hM6.block hF6 HI.out.2.1 HI.out.2.2
        clear hM6 hF6 hf1
        go_wp2_with fail
        refine (state_any _ _ _ _ _ _ _ HI6.out.eng).mono ?_
        rintro e w' ⟨rfl, h⟩
        obtain rfl := h.symm
        clear h
        go_wp2_with fail
        refine (told_any _ _ _ _ _ _ _ HI6.out.eng htl).mono ?_
        rintro e W7 ⟨tv2, rfl, hown7, hb7⟩
        obtain ⟨tao, tcap, rfl⟩ := owns_form hown7
        have HI7 : Hid (RI w W2.heap.size W4.heap.size f1 tv st y f W7 ∧ W7.ownsRow W6.heap.size 3 1 (.slice tao y.told.length tcap) y.told.length (y.told.map (Value.int .i64)) ∧ w.heap.size < W6.heap.size) := ⟨HI6.out.below hb7, hown7, blk_lt HI6.out.out⟩
        clear hown7 hb7
        go_wp2_with fail
        refine (pairsE_any W2.heap.size 0 f1 _ (blk_lt HI7.out.1.map) HI7.out.1.map.at).mono ?_
        rintro e WA ⟨av, rfl, hav, hbA⟩
        have HZ : Hid (WA.heap[w.heap.size]? = some (.cells #[.int .i64 0, .slice none 0 0, .int .i64 0] 37 (0, 0)) ∧ WA.ownsRow W7.heap.size 46 2 av (listOf f1).length (prCells (listOf f1)) ∧ Below W7.heap.size W7 WA) := ⟨(HI7.out.1.below hbA).out, hav, hbA⟩
        obtain ⟨z0, z1, z2, zf⟩ := out_facts HZ.out.1
        clear hav hbA
        go_wp2
        exact bodyPost_ret (v := .tuple #[.agg #[.int .i64 st, .slice tao y.told.length tcap, .int .i64 1], av, .int .i64 0]) (by simp [results, Try.results8, go_sem, z0, z1, z2]) rfl (ran_okE (runErr_ok hj hmb (by omega) (by omega)) HI7.out.1 HI7.out.2.1 HI7.out.2.2 HZ.out.2.2 HZ.out.2.1 (by rw [HST.out, HY.out]; rfl) HY.out (by rw [show runMo l ml (fn : Int) = y from HY.out.symm, HF1.out, HF0.out, if_pos hmb, mapAfter, HST.out]))
      · have hfb : inB fuel 1 200 = false := by simp [inB]; omega
        go_wp2_with (go_at_call 20; refine (isWithin_any _ _ _ _).mono ?_; rintro e w' ⟨rfl, h⟩; obtain rfl := h.symm; clear h; rw [hfb])
        exact bodyPost_ret (v := .tuple #[.agg #[.int .i64 0, .slice none 0 0, .int .i64 0], .slice none 0 0, .int .i64 3]) (by simp [results, Try.results8, go_sem, o0, o1, o2]) rfl (ran_err (runErr_fuel hj hmb (by omega)) (by decide) (((HB3.out.setCell (p := ⟨w.heap.size, _, none⟩) (Nat.le_refl _) _).setCell (p := ⟨w.heap.size, _, none⟩) (Nat.le_refl _) _).setCell (p := ⟨w.heap.size, _, none⟩) (Nat.le_refl _) _))
theorem run_ok : RunOK := fun v mv l ml fuel w hs hm => run_at v mv l ml fuel w hs hm
end Go.Proofs.Ytlbmcdoldnajoab
