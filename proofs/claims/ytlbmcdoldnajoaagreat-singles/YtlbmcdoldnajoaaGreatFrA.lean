import Derived.Test.YtlbmcdoldnajoaaGreatRanKit
import Derived.Test.YtlbmcdoldnajoaaGreatEngB
import Derived.Test.YtlbmcdoldnajoaaGreatRefCheckW
import Derived.Test.YtlbmcdoldnajoaaGreatFrame
import Derived.ProofKit
import Derived.Deep.Slices
import Derived.Deep.QuietTactic
import Derived.BigQuiet
set_option maxRecDepth 100000
set_option maxHeartbeats 1000000
namespace Go.Proofs.YtlbmcdoldnajoaaGreat
open Go.RowKit
def i64B (c : Int) : Prop := -9223372036854775808 ≤ c ∧ c ≤ 9223372036854775807
def pickI (c n : Int) : Int := (if c < 0 then -(c + 1) else c) % n
theorem pickI_lo (c : Int) {n : Int} (h : 0 < n) : 0 ≤ pickI c n := Int.emod_nonneg _ (by omega)
theorem pickI_hi (c : Int) {n : Int} (h : 0 < n) : pickI c n < n := Int.emod_lt_of_pos _ h
end Go.Proofs.YtlbmcdoldnajoaaGreat
namespace Go.Proofs.YtlbmcdoldnajoaaGreat
open Go.RowKit
theorem new_old {w : World} {o : Obj} {b : Nat} {x : Obj} (h : w.heap[b]? = some x) : (w.alloc o).heap[b]? = some x := (Below.heap_alloc w o b (blk_lt h)).trans h
end Go.Proofs.YtlbmcdoldnajoaaGreat
namespace Go.Proofs.YtlbmcdoldnajoaaGreat
open Go.RowKit
attribute [local go_sem ↓] wStM wStR wLdM wLdR
def spM (b : Nat) : Spot := ⟨b, 0, [], [], 71⟩
theorem MapBlk.in {w : World} {b : Nat} {f : Int → Int} (h : MapBlk w b f) : MapIn w (spM b) f := ⟨rfl, by simpa [spM, MapBlk] using h⟩
theorem MapIn.block {w : World} {b : Nat} {f : Int → Int} (h : MapIn w (spM b) f) : MapBlk w b f := by simpa [spM, MapBlk] using h.blk
structure RI (w : World) (mb px : Nat) (f0 : Int → Int) (tv : Value) (st : Int) (y : Mo) (f : Int → Int) (W : World) : Prop where
  out : W.heap[w.heap.size]? = some (.cells #[.int .i64 0, .slice none 0 0, .int .i64 0] 82 (0, 0))
  map : MapBlk W mb f0
  eng : Eng (fun _ => True) W (sp0 px) tv st y f
  bel : Below w.heap.size w W
theorem RI.fr {w : World} {mb px : Nat} {f0 : Int → Int} {tv : Value} {st : Int} {y : Mo} {f : Int → Int} {W W' : World} {S : Nat → Prop} (h : RI w mb px f0 tv st y f W) (hf : Fr S W W') (hS : ∀ k, (k < w.heap.size ∨ k = w.heap.size ∨ k = mb ∨ k = px ∨ tv.ownBlock = some k) → ¬ S k) : RI w mb px f0 tv st y f W' :=
  ⟨hf.blk h.out (hS _ (Or.inr (Or.inl rfl))), hf.blk h.map (hS _ (Or.inr (Or.inr (Or.inl rfl)))), h.eng.fr hf (fun k hk => hS k (hk.elim (fun e => Or.inr (Or.inr (Or.inr (Or.inl e)))) (fun e => Or.inr (Or.inr (Or.inr (Or.inr e)))))),
    h.bel.trans (hf.below (fun k hk => Nat.le_of_not_lt (fun hlt => hS k (Or.inl hlt) hk)) h.bel.size)⟩
theorem RI.below {w : World} {mb px : Nat} {f0 : Int → Int} {tv : Value} {st : Int} {y : Mo} {f : Int → Int} {W W' : World} (h : RI w mb px f0 tv st y f W) (hb : Below W.heap.size W W') : RI w mb px f0 tv st y f W' := h.fr (S := fun _ => False) (Fr.of_below hb) (fun _ _ hs => hs)
theorem RI.map' {w : World} {mb px : Nat} {f0 f1 : Int → Int} {tv : Value} {st : Int} {y : Mo} {f : Int → Int} {W W' : World} (h : RI w mb px f0 tv st y f W) (hm : MapBlk W' mb f1) (hf : Fr (fun k => k = mb) W W') (n1 : w.heap.size < mb) (n2 : mb ≠ px) : RI w mb px f1 tv st y f W' :=
  ⟨hf.blk h.out (by omega), hm, h.eng.fr hf (fun k hk e => by
      rcases hk with hk | hk
      · exact n2 (e.symm.trans hk)
      · exact owns_ne h.eng.told h.map (by decide) (e ▸ hk)), h.bel.trans (hf.below (fun k hk => by omega) h.bel.size)⟩
theorem out_facts {W : World} {b : Nat} (h : W.heap[b]? = some (.cells #[.int .i64 0, .slice none 0 0, .int .i64 0] 82 (0, 0))) :
    W.cell? ⟨b, 0, none⟩ = some (.int .i64 0) ∧ W.cell? ⟨b, 1, none⟩ = some (.slice none 0 0) ∧ W.cell? ⟨b, 2, none⟩ = some (.int .i64 0) ∧ (∀ i, W.frozen? ⟨b, i, none⟩ = false) :=
  ⟨by rw [blk_cell h]; rfl, by rw [blk_cell h]; rfl, by rw [blk_cell h]; rfl, fun _ => blk_free h⟩
theorem ran_okE {l : List St} {ml : List (Int × Int)} {fuel : Int} {w W WA : World} {mb px : Nat} {f0 : Int → Int} {tv : Value} {st st' : Int} {y : Mo} {f : Int → Int} {B2 : Nat} {tv2 av a b c : Value} (herr : runErr l ml fuel = 0)
    (h : RI w mb px f0 tv st y f W) (ht : W.ownsRow B2 3 1 tv2 y.told.length (y.told.map (Value.int .i64))) (hB2 : w.heap.size < B2) (hb : Below W.heap.size W WA) (hav : WA.ownsRow W.heap.size 58 2 av (listOf f0).length (prCells (listOf f0))) (hst : st' = endState l (runMo l ml fuel)) (hy : y = runMo l ml fuel) (hf : f0 = mapAfter l (vIn ml) (runMo l ml fuel)) :
    Ran l ml fuel w (.returned (.tuple #[.agg #[.int .i64 st', tv2, .int .i64 1], av, .int .i64 0])) (((WA.setCell ⟨w.heap.size, 0, none⟩ a).setCell ⟨w.heap.size, 1, none⟩ b).setCell ⟨w.heap.size, 2, none⟩ c) := by
  have hA := h.below hb
  have l1 := blk_lt h.out
  have htn : tv2.ownBlock ≠ some w.heap.size := fun e => by have := owns_ge ht e; omega
  have han : av.ownBlock ≠ some w.heap.size := fun e => by have := owns_ge hav e; omega
  refine ⟨tv2, av, ?_, ?_, ?_, ((hA.bel.setCell (p := ⟨w.heap.size, _, none⟩) (Nat.le_refl _) _).setCell (p := ⟨w.heap.size, _, none⟩) (Nat.le_refl _) _).setCell (p := ⟨w.heap.size, _, none⟩) (Nat.le_refl _) _⟩
  · simp [runSt, runTries, herr, hst]
  · simp only [runTold, herr, if_true]
    rw [← hy]
    exact owns_set (owns_set (owns_set (owns_base (owns_keep ht hb) (Nat.le_of_lt hB2)) htn _ _) htn _ _) htn _ _
  · simp only [runMap, herr, if_true]
    rw [← hf]
    exact owns_set (owns_set (owns_set (owns_base hav (Nat.le_of_lt l1)) han _ _) han _ _) han _ _
theorem run_at (v mv : Value) (l : List St) (ml : List (Int × Int)) (fuel : Int) (w : World) (hs : StepsV w v l) (hm : PairsV w w.heap.size mv ml) :
    Calls Tryz.prog 27 #[v, mv, .int .i64 fuel] w fun e w' => Ran l ml fuel w e w' := by
  have HS : Hid (StepsV w v l) := hs
  have HM : Hid (PairsV w w.heap.size mv ml) := hm
  clear hs hm
  have hb0 : Below w.heap.size w (w.alloc (.cells #[.int .i64 0, .slice none 0 0, .int .i64 0] 82)) := (Below.refl _ _).alloc (Nat.le_refl _) _
  have HB0 : Hid (Below w.heap.size w (w.alloc (.cells #[.int .i64 0, .slice none 0 0, .int .i64 0] 82))) := hb0
  clear hb0
  go_enter Tryz.func27, Tryz.ntmps27
  go_wp2_with fail
  refine (check_any _ l _ (HS.out.below HB0.out)).mono ?_
  rintro e W1 ⟨rfl, hb1⟩
  have hobj : W1.heap[w.heap.size]? = some (.cells #[.int .i64 0, .slice none 0 0, .int .i64 0] 82 (0, 0)) := (hb1.block _ (by simp)).trans (heap_alloc_new w _)
  have o0 : W1.cell? ⟨w.heap.size, 0, none⟩ = some (.int .i64 0) := by rw [blk_cell hobj]; rfl
  have o1 : W1.cell? ⟨w.heap.size, 1, none⟩ = some (.slice none 0 0) := by rw [blk_cell hobj]; rfl
  have o2 : W1.cell? ⟨w.heap.size, 2, none⟩ = some (.int .i64 0) := by rw [blk_cell hobj]; rfl
  have of : ∀ i, W1.frozen? ⟨w.heap.size, i, none⟩ = false := fun i => blk_free hobj
  have HB1 : Hid (Below w.heap.size w W1) := HB0.out.trans (hb1.mono (by simp))
  have HO1 : Hid (W1.heap[w.heap.size]? = some (.cells #[.int .i64 0, .slice none 0 0, .int .i64 0] 82 (0, 0))) := hobj
  clear hobj hb1
  cases hj : jobB l
  · have hc : checkN l = 1 := by simp [checkN, hj]
    rw [hc]
    go_wp2
    exact bodyPost_ret (v := .tuple #[.agg #[.int .i64 0, .slice none 0 0, .int .i64 0], .slice none 0 0, .int .i64 1]) (by simp [results, Tryz.results27, go_sem, o0, o1, o2]) rfl (ran_err (runErr_job hj) (by decide) (((HB1.out.setCell (p := ⟨w.heap.size, _, none⟩) (Nat.le_refl _) _).setCell (p := ⟨w.heap.size, _, none⟩) (Nat.le_refl _) _).setCell (p := ⟨w.heap.size, _, none⟩) (Nat.le_refl _) _))
  · have hc : checkN l = 0 := by simp [checkN, hj]
    rw [hc]
    go_wp2_with fail
    refine (from_any _ ml _ (PairsV.wide (HM.out.below HB1.out (Nat.le_refl _)) HB1.out.size)).mono ?_
    rintro e W2 ⟨rfl, hb2⟩
    have hlt1 : w.heap.size < W1.heap.size := World.block_lt_of_cell? W1 _ o0
    have HO2 : Hid (W2.heap[w.heap.size]? = some (.cells #[.int .i64 0, .slice none 0 0, .int .i64 0] 82 (0, 0))) := (hb2.block _ hlt1).trans HO1.out
    have HB2 : Hid (Below w.heap.size w W2) := HB1.out.trans (hb2.mono HB1.out.size)
    obtain ⟨f0, hf0⟩ : ∃ f0, f0 = (if mapB ml = true then vIn ml else fun _ => -1) := ⟨_, rfl⟩
    have HF0 : Hid (f0 = if mapB ml = true then vIn ml else fun _ => -1) := hf0
    rw [← hf0]
    obtain ⟨cs, hcs⟩ : ∃ cs, cs = (mapCells f0).toArray := ⟨_, rfl⟩
    have HC : Hid (cs = (mapCells f0).toArray) := hcs
    rw [← hcs]
    clear hb2 o0 o1 o2 of hf0 hcs hlt1 HO1
    go_wp2
    refine wp_stN (T := 71) W2.heap.size (by rfl) (by rfl) (by rfl) (by exact heap_alloc_new _ _) (by rw [Tryz.sizeMap, HC.out]; simp [length_mapCells]) (by rw [HC.out]; simp [length_mapCells]) (by rw [HC.out]; exact mapCells_one _) ?_
    rintro W3 hW3 hF3
    have hlt2 := blk_lt HO2.out
    have HO3 : Hid (W3.heap[w.heap.size]? = some (.cells #[.int .i64 0, .slice none 0 0, .int .i64 0] 82 (0, 0))) := (hF3.block _ (by simp; omega) (by omega)).trans (new_old HO2.out)
    have HM3 : Hid (MapBlk W3 W2.heap.size f0) := by rw [HC.out] at hW3; exact hW3
    have HB3 : Hid (Below w.heap.size w W3) := (HB2.out.alloc (Nat.le_of_lt hlt2) _).trans (hF3.below (fun k hk => by omega) (by simp; omega))
    clear hW3 hF3 hlt2
    have o0 : W3.cell? ⟨w.heap.size, 0, none⟩ = some (.int .i64 0) := by rw [blk_cell HO3.out]; rfl
    have o1 : W3.cell? ⟨w.heap.size, 1, none⟩ = some (.slice none 0 0) := by rw [blk_cell HO3.out]; rfl
    have o2 : W3.cell? ⟨w.heap.size, 2, none⟩ = some (.int .i64 0) := by rw [blk_cell HO3.out]; rfl
    have of : ∀ i, W3.frozen? ⟨w.heap.size, i, none⟩ = false := fun i => blk_free HO3.out
    cases hmb : mapB ml
    · go_wp2
      exact bodyPost_ret (v := .tuple #[.agg #[.int .i64 0, .slice none 0 0, .int .i64 0], .slice none 0 0, .int .i64 2]) (by simp [results, Tryz.results27, go_sem, o0, o1, o2]) rfl (ran_err (runErr_map hj hmb) (by decide) (((HB3.out.setCell (p := ⟨w.heap.size, _, none⟩) (Nat.le_refl _) _).setCell (p := ⟨w.heap.size, _, none⟩) (Nat.le_refl _) _).setCell (p := ⟨w.heap.size, _, none⟩) (Nat.le_refl _) _))
    · by_cases hf : 1 ≤ fuel ∧ fuel ≤ 200
      · have hfb : inB fuel 1 200 = true := by simp [inB, hf]
        go_wp2_with (go_at_call 47; refine (isWithin_any _ _ _ _).mono ?_; rintro e w' ⟨rfl, h⟩; obtain rfl := h.symm; clear h; rw [hfb])
        refine wp_ldN (T := 71) W2.heap.size 0 (by rfl) (by rfl) (cs := mapCells f0) (by exact HM3.out.at) (by exact Tryz.underlying71) (by rfl) (by rw [Tryz.sizeMap, length_mapCells]) ?_
        rw [← HC.out]
        clear o0 o1 o2 of
        go_wp2_with fail
        have hf0 : f0 = vIn ml := by rw [HF0.out, hmb]; rfl
        obtain ⟨fn, rfl⟩ : ∃ fn : Nat, fuel = fn := ⟨fuel.toNat, by omega⟩
        obtain ⟨ao, cap, hv, hsl⟩ := HS.out.below HB3.out
        rw [hv, HC.out]
        refine (end_any ao cap l f0 fn W3 hj hsl (by rw [hf0]; exact vIn_le hmb) (by omega)).mono ?_
        rintro e W4 ⟨tv, rfl, hl4, hd4, htold, hb4⟩
        obtain ⟨y, hy⟩ : ∃ y, y = play l f0 fn mo0 := ⟨_, rfl⟩
        have HY : Hid (y = play l (vIn ml) fn mo0) := by rw [hy, hf0]; rfl
        have htl : y.told.length ≤ 1000 := by have := play_told l f0 fn mo0; rw [← hy] at this; simp [mo0] at this; omega
        rw [← hy] at hl4 hd4 htold ⊢
        obtain ⟨st, hst⟩ : ∃ st, st = endState l y := ⟨_, rfl⟩
        have HST : Hid (st = endState l y) := hst
        rw [← hst]
        obtain ⟨f, hf⟩ : ∃ f, f = see f0 y.puts := ⟨_, rfl⟩
        have HFF : Hid (f = see (vIn ml) y.puts) := by rw [hf, hf0]; rfl
        rw [← hf]
        obtain ⟨rs, hrs⟩ : ∃ rs, rs = (engCells st y f tv).toArray := ⟨_, rfl⟩
        have HR : Hid (rs = (engCells st y f tv).toArray) := hrs
        have hH4 : Hid (W4.ownsRow W3.heap.size 3 1 tv y.told.length (y.told.map (Value.int .i64)) ∧ Below W3.heap.size W3 W4 ∧ y.regs.length = 4 ∧ y.read.length = 16) := ⟨htold, hb4, hl4, hd4⟩
        rw [← hrs, ← hv, ← HC.out]
        clear hy hst hf hrs htold hb4 hl4 hd4 hv hsl hf0
        go_wp2
        refine wp_stN (T := 105) W4.heap.size (by rfl) (by rfl) (by rfl) (by exact heap_alloc_new _ _) (by rw [Tryz.sizeRun, HR.out]; simp [engCells_len hH4.out.2.2.1 hH4.out.2.2.2]) (by rw [HR.out]; simp [engCells_len hH4.out.2.2.1 hH4.out.2.2.2]) (by rw [HR.out]; exact engCells_one _ _ _ (by obtain ⟨ao, cap, h⟩ := owns_form hH4.out.1; exact ⟨_, _, _, h⟩)) ?_
        rintro W5 hW5 hF5
        have HI : Hid (RI w W2.heap.size W4.heap.size f0 tv st y f W5 ∧ w.heap.size < W2.heap.size ∧ W2.heap.size ≠ W4.heap.size) := by
          have hlt3 := blk_lt HO3.out
          have hm3 := blk_lt HM3.out
          have hs4 := hH4.out.2.1.size
          have hlt2 := blk_lt HO2.out
          have hF45 : Fr (fun k => k = W4.heap.size) W4 W5 := ⟨hF5.os, hF5.tape, hF5.output, by have := hF5.size; simp at this; omega, fun k hk hs => (hF5.block k (by simp; omega) hs).trans (Below.heap_alloc _ _ _ hk)⟩
          refine ⟨⟨hF45.blk ((hH4.out.2.1.block _ hlt3).trans HO3.out) (by omega), hF45.blk ((hH4.out.2.1.block _ hm3).trans HM3.out) (by omega), ⟨trivial, fun _ _ => trivial, rfl, (by show (3 : TypeId) ≠ 105; decide), by rw [show (sp0 W4.heap.size).pre ++ engCells st y f tv ++ (sp0 W4.heap.size).post = engCells st y f tv by simp [sp0], ← HR.out]; exact hW5, hH4.out.2.2.1, hH4.out.2.2.2, owns_base (owns_fr hH4.out.1 hF45 (fun k hk hs => by have := (owns_lt hH4.out.1 hk).2; omega)) (Nat.zero_le _)⟩, (HB3.out.trans (hH4.out.2.1.mono HB3.out.size)).trans (hF45.below (fun k hk => by omega) (by omega))⟩, hlt2, by omega⟩
        clear hW5 hF5
        go_wp2_with fail
        refine (apply_any (fun _ => True) W5 (sp0 W4.heap.size) (spM W2.heap.size) tv st y (vIn ml) f0 (by rw [← HFF.out]; exact HI.out.1.eng) HI.out.1.map.in HI.out.2.2).mono ?_
        rintro e W6 ⟨rfl, hM6, hF6⟩
        obtain ⟨f1, hf1⟩ : ∃ f1, f1 = (if st = 3 then see f0 y.puts else f0) := ⟨_, rfl⟩
        have HF1 : Hid (f1 = if st = 3 then see f0 y.puts else f0) := hf1
        rw [← hf1] at hM6
        have HI6 : Hid (RI w W2.heap.size W4.heap.size f1 tv st y f W6) := HI.out.1.map' hM6.block hF6 HI.out.2.1 HI.out.2.2
        clear hM6 hF6 hf1
        go_wp2_with fail
        refine (state_any _ _ _ _ _ _ _ HI6.out.eng).mono ?_
        rintro e w' ⟨rfl, h⟩
        obtain rfl := h.symm
        clear h
        go_wp2_with fail
        refine (told_any _ _ _ _ _ _ _ HI6.out.eng htl).mono ?_
        rintro e W7 ⟨tv2, rfl, hown7, hb7⟩
        obtain ⟨tao, tcap, rfl⟩ := owns_form hown7
        have HI7 : Hid (RI w W2.heap.size W4.heap.size f1 tv st y f W7 ∧ W7.ownsRow W6.heap.size 3 1 (.slice tao y.told.length tcap) y.told.length (y.told.map (Value.int .i64)) ∧ w.heap.size < W6.heap.size) := ⟨HI6.out.below hb7, hown7, blk_lt HI6.out.out⟩
        clear hown7 hb7
        go_wp2_with fail
        refine (pairsE_any W2.heap.size 0 f1 _ (blk_lt HI7.out.1.map) HI7.out.1.map.at).mono ?_
        rintro e WA ⟨av, rfl, hav, hbA⟩
        have HZ : Hid (WA.heap[w.heap.size]? = some (.cells #[.int .i64 0, .slice none 0 0, .int .i64 0] 82 (0, 0)) ∧ WA.ownsRow W7.heap.size 58 2 av (listOf f1).length (prCells (listOf f1)) ∧ Below W7.heap.size W7 WA) := ⟨(HI7.out.1.below hbA).out, hav, hbA⟩
        obtain ⟨z0, z1, z2, zf⟩ := out_facts HZ.out.1
        clear hav hbA
        go_wp2
        exact bodyPost_ret (v := .tuple #[.agg #[.int .i64 st, .slice tao y.told.length tcap, .int .i64 1], av, .int .i64 0]) (by simp [results, Tryz.results27, go_sem, z0, z1, z2]) rfl (ran_okE (runErr_ok hj hmb (by omega) (by omega)) HI7.out.1 HI7.out.2.1 HI7.out.2.2 HZ.out.2.2 HZ.out.2.1 (by rw [HST.out, HY.out]; rfl) HY.out (by rw [show runMo l ml (fn : Int) = y from HY.out.symm, HF1.out, HF0.out, if_pos hmb, mapAfter, HST.out]))
      · have hfb : inB fuel 1 200 = false := by simp [inB]; omega
        go_wp2_with (go_at_call 47; refine (isWithin_any _ _ _ _).mono ?_; rintro e w' ⟨rfl, h⟩; obtain rfl := h.symm; clear h; rw [hfb])
        exact bodyPost_ret (v := .tuple #[.agg #[.int .i64 0, .slice none 0 0, .int .i64 0], .slice none 0 0, .int .i64 3]) (by simp [results, Tryz.results27, go_sem, o0, o1, o2]) rfl (ran_err (runErr_fuel hj hmb (by omega)) (by decide) (((HB3.out.setCell (p := ⟨w.heap.size, _, none⟩) (Nat.le_refl _) _).setCell (p := ⟨w.heap.size, _, none⟩) (Nat.le_refl _) _).setCell (p := ⟨w.heap.size, _, none⟩) (Nat.le_refl _) _))
theorem run_ok : RunOK := fun v mv l ml fuel w hs hm => run_at v mv l ml fuel w hs hm
end Go.Proofs.YtlbmcdoldnajoaaGreat
namespace Go.Proofs.YtlbmcdoldnajoaaGreat
open Go.RowKit Go.Deep
theorem Tryz.cellsStep : Tryz.prog.cellsOf 95 = 4 := by kernel_rfl
theorem Tryz.cellsInt : Tryz.prog.cellsOf 3 = 1 := by kernel_rfl
section
variable {H : Type} {enc : TypeId × Value → H} {w : World} {base : Nat} {spare : Nat → Bool} {held : Bool}
theorem open_step {fuel : Nat} {cs : List Value} {x : DataW H × List MemPlace} (h : DataW.trod enc Tryz.prog w base spare held fuel 95 cs = some x) :
    ∃ s : St, cs = [.int .i64 s.op, .int .i64 s.a, .int .i64 s.b, .int .i64 s.c] := by
  obtain ⟨xs, k, _, _, hlen, hxl, hf⟩ := DataW.trod_struct Tryz.underlying95 h
  rw [Tryz.cellsStep] at hlen
  match xs, hxl, cs, hlen with
  | [y0, y1, y2, y3], _, [v0, v1, v2, v3], _ =>
    have g0 := hf 0 _ rfl
    have g1 := hf 1 _ rfl
    have g2 := hf 2 _ rfl
    have g3 := hf 3 _ rfl
    simp [Tryz.cellsInt] at g0 g1 g2 g3
    obtain ⟨a, e0, _, _⟩ := DataW.trod_int Tryz.underlying3 g0
    obtain ⟨b, e1, _, _⟩ := DataW.trod_int Tryz.underlying3 g1
    obtain ⟨c, e2, _, _⟩ := DataW.trod_int Tryz.underlying3 g2
    obtain ⟨d, e3, _, _⟩ := DataW.trod_int Tryz.underlying3 g3
    simp at e0 e1 e2 e3
    subst e0 e1 e2 e3
    exact ⟨⟨a, b, c, d⟩, rfl⟩
theorem open_steps {fuel : Nat} {v : Value} {x : DataW H × List MemPlace} (h : DataW.trod enc Tryz.prog w base spare held fuel 35 [v] = some x) :
    ∃ l : List St, StepsV w v l ∧ (l = [] ∨ ∃ el sp, x.1 = .slice el sp ∧ el.length = l.length) := by
  rcases open_slice Tryz.underlying35 h with ⟨hc, _⟩ | ⟨a, len, cap, m, n, D, Pl, hc, hb, hl, hm, hmm, hx, hall⟩
  · simp at hc
    exact ⟨[], ⟨none, 0, hc, Or.inl rfl⟩, Or.inl rfl⟩
  · simp at hc
    have hlm : len ≤ m := by rw [hmm]; split <;> omega
    haveI : Inhabited St := ⟨stz⟩
    obtain ⟨S, hS⟩ := choose_lt (n := len) (p := fun i (s : St) => ∀ j, j < 4 → w.cell? ((a.add (i * 4)).add j) = [Value.int .i64 s.op, .int .i64 s.a, .int .i64 s.b, .int .i64 s.c][j]?) (fun i hi => by
      obtain ⟨cs, h1, h2⟩ := hall i (by omega)
      rw [Tryz.cellsStep] at h1
      obtain ⟨_, _, hcell⟩ := World.cells?_some h1
      obtain ⟨s, rfl⟩ := open_step h2
      exact ⟨s, hcell⟩)
    have hlen : ((List.range len).map S).length = len := by simp
    refine ⟨(List.range len).map S, ⟨some a, cap, by rw [hlen]; exact hc, ?_⟩, Or.inr ⟨_, _, by rw [hx], by simp⟩⟩
    by_cases h0 : len = 0
    · left; subst h0; rfl
    · right
      obtain ⟨b, off, spot⟩ := a
      have hz := hS 0 (by omega) 0 (by omega)
      simp [Addr.add] at hz
      have hspot : spot = none := by simpa using World.cell?_spot hz
      subst hspot
      refine ⟨b, off, rfl, World.block_lt_of_cell? w _ hz, fun i hi => ?_⟩
      rw [hlen] at hi
      have e : ((List.range len).map S).getD i stz = S i := by simp [List.getD, hi]
      rw [e]
      have q := hS i hi
      simp only [WideShapes.add_plain] at q
      have q0 := q 0 (by omega)
      have q1 := q 1 (by omega)
      have q2 := q 2 (by omega)
      have q3 := q 3 (by omega)
      simp only [Nat.add_zero] at q0 q1 q2 q3
      exact ⟨q0, q1, q2, q3⟩
end
end Go.Proofs.YtlbmcdoldnajoaaGreat
namespace Go.Proofs.YtlbmcdoldnajoaaGreat
open Go.RowKit Go.Deep
theorem Tryz.cellsPair : Tryz.prog.cellsOf 58 = 2 := by kernel_rfl
section
variable {H : Type} {enc : TypeId × Value → H} {w : World} {base : Nat} {spare : Nat → Bool} {held : Bool}
theorem open_pair {fuel : Nat} {cs : List Value} {x : DataW H × List MemPlace} (h : DataW.trod enc Tryz.prog w base spare held fuel 58 cs = some x) :
    ∃ s : Int × Int, cs = [.int .i64 s.1, .int .i64 s.2] := by
  obtain ⟨xs, k, _, _, hlen, hxl, hf⟩ := DataW.trod_struct Tryz.underlying58 h
  rw [Tryz.cellsPair] at hlen
  match xs, hxl, cs, hlen with
  | [y0, y1], _, [v0, v1], _ =>
    have g0 := hf 0 _ rfl
    have g1 := hf 1 _ rfl
    simp [Tryz.cellsInt] at g0 g1
    obtain ⟨a, e0, _, _⟩ := DataW.trod_int Tryz.underlying3 g0
    obtain ⟨b, e1, _, _⟩ := DataW.trod_int Tryz.underlying3 g1
    simp at e0 e1
    subst e0 e1
    exact ⟨(a, b), rfl⟩
theorem open_pairs {fuel : Nat} {v : Value} {x : DataW H × List MemPlace} (h : DataW.trod enc Tryz.prog w base spare held fuel 36 [v] = some x) :
    ∃ l : List (Int × Int), (l.length ≤ 140737488351232 → PairsV w w.heap.size v l) ∧ (l = [] ∨ ∃ el sp, x.1 = .slice el sp ∧ el.length = l.length) := by
  rcases open_slice Tryz.underlying36 h with ⟨hc, _⟩ | ⟨a, len, cap, m, n, D, Pl, hc, hb, hl, hm, hmm, hx, hall⟩
  · simp at hc
    exact ⟨[], fun _ => ⟨none, 0, hc, Nat.zero_le _, Or.inl rfl⟩, Or.inl rfl⟩
  · simp at hc
    have hlm : len ≤ m := by rw [hmm]; split <;> omega
    obtain ⟨S, hS⟩ := choose_lt (n := len) (p := fun i (s : Int × Int) => ∀ j, j < 2 → w.cell? ((a.add (i * 2)).add j) = [Value.int .i64 s.1, .int .i64 s.2][j]?) (fun i hi => by
      obtain ⟨cs, h1, h2⟩ := hall i (by omega)
      rw [Tryz.cellsPair] at h1
      obtain ⟨_, _, hcell⟩ := World.cells?_some h1
      obtain ⟨s, rfl⟩ := open_pair h2
      exact ⟨s, hcell⟩)
    have hlen : ((List.range len).map S).length = len := by simp
    refine ⟨(List.range len).map S, fun hmax => ⟨some a, cap, by rw [hlen]; exact hc, hmax, ?_⟩, Or.inr ⟨_, _, by rw [hx], by simp⟩⟩
    by_cases h0 : len = 0
    · left; subst h0; rfl
    · right
      obtain ⟨b, off, spot⟩ := a
      have hz := hS 0 (by omega) 0 (by omega)
      simp [Addr.add] at hz
      have hspot : spot = none := by simpa using World.cell?_spot hz
      subst hspot
      refine ⟨b, off, rfl, World.block_lt_of_cell? w _ hz, fun i hi => ?_⟩
      rw [hlen] at hi
      have e : ((List.range len).map S).getD i pz = S i := by simp [List.getD, hi]
      rw [e]
      have q := hS i hi
      simp only [WideShapes.add_plain] at q
      have q0 := q 0 (by omega)
      have q1 := q 1 (by omega)
      simp only [Nat.add_zero] at q0 q1
      exact ⟨q0, q1⟩
end
end Go.Proofs.YtlbmcdoldnajoaaGreat
namespace Go.Proofs.YtlbmcdoldnajoaaGreat
open Go.RowKit Go.Deep
theorem i64B_wf {n : Int} (h : (Lit.int .i64 n).wf = true) : i64B n := by
  have h' : IntKind.i64.min ≤ n ∧ n ≤ IntKind.i64.max := by simpa [Lit.wf] using h
  exact ⟨Int.le_trans (by decide) h'.1, Int.le_trans h'.2 (by decide)⟩
end Go.Proofs.YtlbmcdoldnajoaaGreat
namespace Go.Proofs.YtlbmcdoldnajoaaGreat
open Go.RowKit
end Go.Proofs.YtlbmcdoldnajoaaGreat
namespace Go.Proofs.YtlbmcdoldnajoaaGreat
theorem play_add (l : List St) (m : Int → Int) : ∀ (a b : Nat) (x : Mo), play l m (a + b) x = play l m b (play l m a x)
  | 0, b, x => by rw [Nat.zero_add]; rfl
  | a + 1, b, x => by
    rw [show a + 1 + b = (a + b) + 1 by omega, play, play]
    by_cases h : x.fin = 0 ∧ x.pc < l.length
    · rw [if_pos h, if_pos h]; exact play_add l m a b _
    · rw [if_neg h, if_neg h, play_end h]
def ltK (a b : Int × Int) : Prop := a.1 < b.1
theorem pair_mapB {l : List (Int × Int)} (h : ∀ p ∈ l, (0 ≤ p.1 ∧ p.1 ≤ 15) ∧ 0 ≤ p.2 ∧ p.2 ≤ 9999) (hs : l.Pairwise ltK) : mapB l = true := by
  rw [mapB_eq, List.all_eq_true]
  intro i hi
  have hi := List.mem_range.1 hi
  have e : l.getD i pz = l[i] := by simp [List.getD, hi]
  have hm := h l[i] (List.getElem_mem _)
  simp only [goodP, Bool.and_eq_true, Bool.or_eq_true, decide_eq_true_eq, e, keyB]
  refine ⟨⟨hm.1, hm.2⟩, ?_⟩
  by_cases h0 : i = 0
  · exact Or.inl h0
  · refine Or.inr ?_
    have hi' : i - 1 < l.length := by omega
    have e' : l.getD (i - 1) pz = l[i - 1] := by simp [List.getD, hi']
    rw [e']
    exact (List.pairwise_iff_getElem.1 hs) (i - 1) i hi' hi (by omega)
theorem acc_mem {f : Int → Int} {n : Nat} {p : Int × Int} : p ∈ accL f n ↔ 0 ≤ p.1 ∧ p.1 < n ∧ 0 ≤ f p.1 ∧ p.2 = f p.1 := by
  simp only [accL, List.mem_filterMap, List.mem_range]
  constructor
  · rintro ⟨k, hk, e⟩
    split at e
    · rename_i hf
      injection e with e
      subst e
      exact ⟨by simp, by simpa using hk, hf, rfl⟩
    · cases e
  · rintro ⟨h0, h1, h2, h3⟩
    refine ⟨p.1.toNat, by omega, ?_⟩
    have e : ((p.1.toNat : Nat) : Int) = p.1 := by omega
    rw [e, if_pos h2, ← h3]
theorem acc_sorted (f : Int → Int) : ∀ n, (accL f n).Pairwise ltK
  | 0 => by simp [accL]
  | n + 1 => by
    rw [accL_succ, List.pairwise_append]
    refine ⟨acc_sorted f n, by split <;> simp, fun a ha b hb => ?_⟩
    have h1 := (acc_mem.1 ha).2.1
    split at hb
    · simp at hb; subst hb; exact h1
    · simp at hb
theorem acc_mapB {f : Int → Int} {n : Nat} (hn : n ≤ 16) (hf : ∀ k, f k ≤ 9999) : mapB (accL f n) = true := by
  refine pair_mapB (fun p hp => ?_) (acc_sorted f n)
  obtain ⟨h1, h2, h3, h4⟩ := acc_mem.1 hp
  have := hf p.1
  exact ⟨⟨h1, by omega⟩, by omega, by omega⟩
theorem vIn_mem : ∀ {l : List (Int × Int)}, l.Pairwise ltK → ∀ {p : Int × Int}, p ∈ l → vIn l p.1 = p.2
  | q :: r, h, p, hp => by
    obtain ⟨h1, h2⟩ := List.pairwise_cons.1 h
    rw [vIn]
    rcases List.mem_cons.1 hp with e | e
    · subst e; rw [if_pos rfl]
    · have : q.1 < p.1 := h1 _ e
      rw [if_neg (by omega)]
      exact vIn_mem h2 e
theorem vIn_out : ∀ {l : List (Int × Int)} {k : Int}, (∀ p ∈ l, p.1 ≠ k) → vIn l k = -1
  | [], _, _ => rfl
  | q :: r, k, h => by rw [vIn, if_neg (h q (by simp))]; exact vIn_out (fun p hp => h p (by simp [hp]))
theorem vIn_acc (f : Int → Int) (n : Nat) (k : Int) : vIn (accL f n) k = if 0 ≤ k ∧ k < n ∧ 0 ≤ f k then f k else -1 := by
  by_cases h : 0 ≤ k ∧ k < n ∧ 0 ≤ f k
  · rw [if_pos h]
    exact vIn_mem (p := (k, f k)) (acc_sorted f n) (acc_mem.2 ⟨h.1, h.2.1, h.2.2, rfl⟩)
  · rw [if_neg h]
    refine vIn_out (fun p hp e => h ?_)
    obtain ⟨h1, h2, h3, _⟩ := acc_mem.1 hp
    rw [e] at h1 h2 h3
    exact ⟨h1, h2, h3⟩
end Go.Proofs.YtlbmcdoldnajoaaGreat
namespace Go.Proofs.YtlbmcdoldnajoaaGreat
open Go.RowKit
theorem stepsV_own {w : World} {B : Nat} {v : Value} {l : List St} (h : w.ownsRow B 95 4 v l.length (stCells l)) : StepsV w v l := by
  rcases h.2 with ⟨rfl, h0⟩ | ⟨g, cap, cur, rfl, _, hh, h1, _, h2, h3⟩
  · obtain rfl : l = [] := List.eq_nil_of_length_eq_zero h0
    exact ⟨none, 0, rfl, Or.inl rfl⟩
  · refine ⟨_, cap, rfl, Or.inr ⟨g, 0, rfl, blk_lt hh, stepsAt_of_row (rest := cur.toList.drop (l.length * 4)) (t := 95) (fr := (0, 0)) ?_⟩⟩
    rw [hh, ← h3, List.take_append_drop]
end Go.Proofs.YtlbmcdoldnajoaaGreat
