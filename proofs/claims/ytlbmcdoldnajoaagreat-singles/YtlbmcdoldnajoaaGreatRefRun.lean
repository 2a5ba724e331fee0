import Derived.Test.YtlbmcdoldnajoaaGreatStepsA2
import Derived.Test.YtlbmcdoldnajoaaGreatOk
import Derived.Test.YtlbmcdoldnajoaaGreatRefCheckW
import Derived.Deep.RegionWith
set_option maxRecDepth 100000
set_option maxHeartbeats 2000000
namespace Go.Proofs.YtlbmcdoldnajoaaGreat
open Go.RowKit
attribute [local go_sem ↓] Go.wp_at_zero Go.wp_at_succ
theorem runErr_job {l : List St} {ml : List (Int × Int)} {fuel : Int} (h : jobB l = false) : runErr l ml fuel = 1 := by simp [runErr, checkN, h]
theorem runErr_map {l : List St} {ml : List (Int × Int)} {fuel : Int} (h : jobB l = true) (h2 : mapB ml = false) : runErr l ml fuel = 2 := by simp [runErr, checkN, h, h2]
theorem runErr_fuel {l : List St} {ml : List (Int × Int)} {fuel : Int} (h : jobB l = true) (h2 : mapB ml = true) (h3 : fuel < 1 ∨ 200 < fuel) : runErr l ml fuel = 3 := by simp [runErr, checkN, h, h2, h3]
theorem runErr_ok {l : List St} {ml : List (Int × Int)} {fuel : Int} (h : jobB l = true) (h2 : mapB ml = true) (h3 : 1 ≤ fuel) (h4 : fuel ≤ 200) : runErr l ml fuel = 0 := by
  have : ¬ (fuel < 1 ∨ 200 < fuel) := by omega
  simp [runErr, checkN, h, h2, this]
theorem refRun_bad (v mv : Value) (l : List St) (ml : List (Int × Int)) (fuel : Int) (w : World) (hs : StepsV w v l) (hm : PairsV w w.heap.size mv ml) (hbad : ¬ (jobB l = true ∧ mapB ml = true ∧ 1 ≤ fuel ∧ fuel ≤ 200)) :
    Calls Tryz.prog 28 #[v, mv, .int .i64 fuel] w fun e w' => Ran l ml fuel w e w' := by
  have HS : Hid (StepsV w v l) := hs
  have HM : Hid (PairsV w w.heap.size mv ml) := hm
  have HBad : Hid (¬ (jobB l = true ∧ mapB ml = true ∧ 1 ≤ fuel ∧ fuel ≤ 200)) := hbad
  clear hs hm hbad
  have hb0 : Below w.heap.size w (w.alloc (.cells #[.int .i64 0, .slice none 0 0, .int .i64 0] 82)) := (Below.refl _ _).alloc (Nat.le_refl _) _
  have HB0 : Hid (Below w.heap.size w (w.alloc (.cells #[.int .i64 0, .slice none 0 0, .int .i64 0] 82))) := hb0
  clear hb0
  go_enter Tryz.func28, Tryz.ntmps28
  go_wp2_with fail
  refine (refCheck_any _ l _ (HS.out.below HB0.out)).mono ?_
  rintro e W1 ⟨rfl, hb1⟩
  have hobj : W1.heap[w.heap.size]? = some (.cells #[.int .i64 0, .slice none 0 0, .int .i64 0] 82 (0, 0)) := (hb1.block _ (by simp)).trans (heap_alloc_new w _)
  have o0 : W1.cell? ⟨w.heap.size, 0, none⟩ = some (.int .i64 0) := by rw [blk_cell hobj]; rfl
  have o1 : W1.cell? ⟨w.heap.size, 1, none⟩ = some (.slice none 0 0) := by rw [blk_cell hobj]; rfl
  have o2 : W1.cell? ⟨w.heap.size, 2, none⟩ = some (.int .i64 0) := by rw [blk_cell hobj]; rfl
  have of : ∀ i, W1.frozen? ⟨w.heap.size, i, none⟩ = false := fun i => blk_free hobj
  have HB1 : Hid (Below w.heap.size w W1) := HB0.out.trans (hb1.mono (by simp))
  clear hobj hb1
  cases hj : jobB l
  · have hc : checkN l = 1 := by simp [checkN, hj]
    rw [hc]
    go_wp2
    exact bodyPost_ret (v := .tuple #[.agg #[.int .i64 0, .slice none 0 0, .int .i64 0], .slice none 0 0, .int .i64 1]) (by simp [results, Tryz.results28, go_sem, o0, o1, o2]) rfl (ran_err (runErr_job hj) (by decide) (((HB1.out.setCell (p := ⟨w.heap.size, _, none⟩) (Nat.le_refl _) _).setCell (p := ⟨w.heap.size, _, none⟩) (Nat.le_refl _) _).setCell (p := ⟨w.heap.size, _, none⟩) (Nat.le_refl _) _))
  · have hc : checkN l = 0 := by simp [checkN, hj]
    rw [hc]
    go_wp2_with fail
    refine (mapOK_any _ w.heap.size ml _ (HM.out.below HB1.out (Nat.le_refl _))).mono ?_
    rintro e W2 ⟨rfl, hb2⟩
    have hsz := HB1.out.size
    have hlt1 : w.heap.size < W1.heap.size := by have := HB1.out.size; exact World.block_lt_of_cell? W1 _ o0
    have p0 := (hb2.cell (p := ⟨w.heap.size, 0, none⟩) hlt1).trans o0
    have p1 := (hb2.cell (p := ⟨w.heap.size, 1, none⟩) hlt1).trans o1
    have p2 := (hb2.cell (p := ⟨w.heap.size, 2, none⟩) hlt1).trans o2
    have pf : ∀ i, W2.frozen? ⟨w.heap.size, i, none⟩ = false := fun i => (hb2.frozen (p := ⟨w.heap.size, i, none⟩) hlt1).trans (of i)
    have HB2 : Hid (Below w.heap.size w W2) := HB1.out.trans (hb2.mono hsz)
    clear o0 o1 o2 of hb2 hsz hlt1
    cases hmb : mapB ml
    · go_wp2
      exact bodyPost_ret (v := .tuple #[.agg #[.int .i64 0, .slice none 0 0, .int .i64 0], .slice none 0 0, .int .i64 2]) (by simp [results, Tryz.results28, go_sem, p0, p1, p2]) rfl (ran_err (runErr_map hj hmb) (by decide) (((HB2.out.setCell (p := ⟨w.heap.size, _, none⟩) (Nat.le_refl _) _).setCell (p := ⟨w.heap.size, _, none⟩) (Nat.le_refl _) _).setCell (p := ⟨w.heap.size, _, none⟩) (Nat.le_refl _) _))
    · have hf : fuel < 1 ∨ (1 ≤ fuel ∧ 200 < fuel) := by have := HBad.out; simp [hj, hmb] at this; omega
      rcases hf with hf | ⟨hf, hf'⟩
      · go_wp2
        exact bodyPost_ret (v := .tuple #[.agg #[.int .i64 0, .slice none 0 0, .int .i64 0], .slice none 0 0, .int .i64 3]) (by simp [results, Tryz.results28, go_sem, p0, p1, p2]) rfl (ran_err (runErr_fuel hj hmb (Or.inl hf)) (by decide) (((HB2.out.setCell (p := ⟨w.heap.size, _, none⟩) (Nat.le_refl _) _).setCell (p := ⟨w.heap.size, _, none⟩) (Nat.le_refl _) _).setCell (p := ⟨w.heap.size, _, none⟩) (Nat.le_refl _) _))
      · go_wp2
        exact bodyPost_ret (v := .tuple #[.agg #[.int .i64 0, .slice none 0 0, .int .i64 0], .slice none 0 0, .int .i64 3]) (by simp [results, Tryz.results28, go_sem, p0, p1, p2]) rfl (ran_err (runErr_fuel hj hmb (Or.inr hf')) (by decide) (((HB2.out.setCell (p := ⟨w.heap.size, _, none⟩) (Nat.le_refl _) _).setCell (p := ⟨w.heap.size, _, none⟩) (Nat.le_refl _) _).setCell (p := ⟨w.heap.size, _, none⟩) (Nat.le_refl _) _))
theorem after_facts {W4 W5 : World} {bo bz : Nat} {st : Int} {tv : Value} (hout : W4.heap[bo]? = some (.cells #[.int .i64 st, tv, .int .i64 1] 82 (0, 0))) (hz : W4.heap[bz]? = some (.cells #[.int .i64 0, .slice none 0 0, .int .i64 0] 82 (0, 0)))
    (hb : Below W4.drew.heap.size W4.drew W5) : W5.cell? ⟨bo, 0, none⟩ = some (.int .i64 st) ∧ W5.cell? ⟨bo, 1, none⟩ = some tv ∧ W5.cell? ⟨bo, 2, none⟩ = some (.int .i64 1) ∧
      W5.cell? ⟨bz, 0, none⟩ = some (.int .i64 0) ∧ W5.cell? ⟨bz, 1, none⟩ = some (.slice none 0 0) ∧ W5.cell? ⟨bz, 2, none⟩ = some (.int .i64 0) ∧ (∀ i, W5.frozen? ⟨bz, i, none⟩ = false) := by
  have h1 : W5.heap[bo]? = some (.cells #[.int .i64 st, tv, .int .i64 1] 82 (0, 0)) := (hb.block bo (blk_lt hout)).trans hout
  have h2 : W5.heap[bz]? = some (.cells #[.int .i64 0, .slice none 0 0, .int .i64 0] 82 (0, 0)) := (hb.block bz (blk_lt hz)).trans hz
  exact ⟨by rw [blk_cell h1]; rfl, by rw [blk_cell h1]; rfl, by rw [blk_cell h1]; rfl, by rw [blk_cell h2]; rfl, by rw [blk_cell h2]; rfl, by rw [blk_cell h2]; rfl, fun _ => blk_free h2⟩
theorem owns_form {w : World} {base : Nat} {e : TypeId} {size : Nat} {v : Value} {n : Nat} {xs : List Value} (h : w.ownsRow base e size v n xs) : ∃ ao cap, v = .slice ao n cap := by
  rcases h.2 with ⟨rfl, rfl⟩ | ⟨g, cap, cur, rfl, _⟩
  · exact ⟨none, 0, rfl⟩
  · exact ⟨_, cap, rfl⟩
theorem owns_base {w : World} {base base' : Nat} {e : TypeId} {size : Nat} {v : Value} {n : Nat} {xs : List Value} (h : w.ownsRow base e size v n xs) (hb : base' ≤ base) : w.ownsRow base' e size v n xs := by
  refine ⟨h.1, ?_⟩
  rcases h.2 with h | ⟨g, cap, cur, h1, h2, h3⟩
  · exact Or.inl h
  · exact Or.inr ⟨g, cap, cur, h1, Nat.le_trans hb h2, h3⟩
theorem owns_keep {w w' : World} {base : Nat} {e : TypeId} {size : Nat} {v : Value} {n : Nat} {xs : List Value} (h : w.ownsRow base e size v n xs) (hb : Below w.heap.size w w') : w'.ownsRow base e size v n xs :=
  owns_fr (S := fun _ => False) h (Fr.of_below hb) (fun _ _ hs => hs)
theorem ran_ok {l : List St} {ml : List (Int × Int)} {fuel : Int} {w W3 W4 W5 : World} {B2 px rb db : Nat} {pv tv av : Value} {pl : List (Int × Int)} {st : Int} {f : Int → Int} {a b c : Value} (herr : runErr l ml fuel = 0)
    (hMo : Mom B2 W3 px rb db pv tv (runMo l ml fuel) pl) (hB2 : w.heap.size < B2) (hb3 : Below w.heap.size w W3) (hb4 : Below W3.heap.size W3 W4) (hb5 : Below W4.drew.heap.size W4.drew W5)
    (hav : W5.ownsRow W4.drew.heap.size 58 2 av (listOf f).length (prCells (listOf f))) (hst : st = endState l (runMo l ml fuel)) (hf : f = mapAfter l (vIn ml) (runMo l ml fuel)) :
    Ran l ml fuel w (.returned (.tuple #[.agg #[.int .i64 st, tv, .int .i64 1], av, .int .i64 0])) (((W5.setCell ⟨w.heap.size, 0, none⟩ a).setCell ⟨w.heap.size, 1, none⟩ b).setCell ⟨w.heap.size, 2, none⟩ c) := by
  have h35 : Below W3.heap.size W3 W5 := hb4.drew.trans (hb5.mono hb4.size)
  have hsz : w.heap.size < W3.heap.size := Nat.lt_of_lt_of_le hB2 hMo.base_le
  have ht5 := owns_base (owns_keep hMo.told h35) (Nat.le_of_lt hB2)
  have htn : tv.ownBlock ≠ some w.heap.size := fun e => by have := owns_ge hMo.told e; omega
  have hva := owns_base hav (show w.heap.size ≤ W4.drew.heap.size from Nat.le_trans (Nat.le_of_lt hsz) hb4.size)
  have han : av.ownBlock ≠ some w.heap.size := fun e => by
    have h1 := owns_ge hav e
    have h2 := hb4.size
    have h3 : W4.drew.heap.size = W4.heap.size := rfl
    omega
  refine ⟨tv, av, ?_, ?_, ?_, (((hb3.trans (h35.mono (Nat.le_of_lt hsz))).setCell (p := ⟨w.heap.size, _, none⟩) (Nat.le_refl _) _).setCell (p := ⟨w.heap.size, _, none⟩) (Nat.le_refl _) _).setCell (p := ⟨w.heap.size, _, none⟩) (Nat.le_refl _) _⟩
  · simp [runSt, runTries, herr, hst]
  · simp only [runTold, herr, if_true]
    exact owns_set (owns_set (owns_set ht5 htn _ _) htn _ _) htn _ _
  · simp only [runMap, herr, if_true]
    rw [← hf]
    exact owns_set (owns_set (owns_set hva han _ _) han _ _) han _ _
theorem refRun_good (v mv : Value) (l : List St) (ml : List (Int × Int)) (fn : Nat) (w : World) (hs : StepsV w v l) (hm : PairsV w w.heap.size mv ml) (hj : jobB l = true) (hmb : mapB ml = true) (hf : 1 ≤ fn) (hf' : fn ≤ 200) :
    Calls Tryz.prog 28 #[v, mv, .int .i64 (fn : Int)] w fun e w' => Ran l ml (fn : Int) w e w' := by
  have HS : Hid (StepsV w v l) := hs
  have HM : Hid (PairsV w w.heap.size mv ml) := hm
  have HJ : Hid (jobB l = true) := hj
  have HMB : Hid (mapB ml = true) := hmb
  have hb0 : Below w.heap.size w (w.alloc (.cells #[.int .i64 0, .slice none 0 0, .int .i64 0] 82)) := (Below.refl _ _).alloc (Nat.le_refl _) _
  have HB0 : Hid (Below w.heap.size w (w.alloc (.cells #[.int .i64 0, .slice none 0 0, .int .i64 0] 82))) := hb0
  have hvl : ∃ ao cap, v = .slice ao l.length cap := by obtain ⟨ao, cap, h, _⟩ := hs; exact ⟨ao, cap, h⟩
  obtain ⟨ao, cap, rfl⟩ := hvl
  clear hs hm hb0
  go_enter Tryz.func28, Tryz.ntmps28
  go_wp2_with fail
  refine (refCheck_any _ l _ (HS.out.below HB0.out)).mono ?_
  rintro e W1 ⟨rfl, hb1⟩
  have hobj : W1.heap[w.heap.size]? = some (.cells #[.int .i64 0, .slice none 0 0, .int .i64 0] 82 (0, 0)) := (hb1.block _ (by simp)).trans (heap_alloc_new w _)
  have HB1 : Hid (Below w.heap.size w W1) := HB0.out.trans (hb1.mono (by simp))
  have HO1 : Hid (W1.heap[w.heap.size]? = some (.cells #[.int .i64 0, .slice none 0 0, .int .i64 0] 82 (0, 0))) := hobj
  have hc : checkN l = 0 := by simp [checkN, hj]
  rw [hc]
  clear hobj hb1 hc hj
  go_wp2_with fail
  refine (mapOK_any _ w.heap.size ml _ (HM.out.below HB1.out (Nat.le_refl _))).mono ?_
  rintro e W2 ⟨rfl, hb2⟩
  have hobj := (hb2.block _ (blk_lt HO1.out)).trans HO1.out
  have HB2 : Hid (Below w.heap.size w W2) := HB1.out.trans (hb2.mono HB1.out.size)
  have HO2 : Hid (W2.heap[w.heap.size]? = some (.cells #[.int .i64 0, .slice none 0 0, .int .i64 0] 82 (0, 0))) := hobj
  rw [hmb]
  clear hobj hb2 hmb
  have hpv2 : Hid (PairsV W2 W2.heap.size mv ml) := by
    obtain ⟨ao, cap, h1, h2, h3⟩ := HM.out.below HB2.out (Nat.le_refl _)
    refine ⟨ao, cap, h1, h2, ?_⟩
    rcases h3 with h3 | ⟨b, off, k1, k2, k3⟩
    · exact Or.inl h3
    · exact Or.inr ⟨b, off, k1, Nat.lt_of_lt_of_le k2 HB2.out.size, k3⟩
  go_wp2_with fail
  refine (play_any _ l _ ml fn _ HJ.out (HS.out.below HB2.out) hpv2.out (vIn_le HMB.out) hf').mono ?_
  rintro e W3 ⟨px, rb, db, pv, tv, pl, rfl, hMo, hpl, hb3⟩
  have hobj := (hb3.block _ (blk_lt HO2.out)).trans HO2.out
  have HB3 : Hid (Below w.heap.size w W3) := HB2.out.trans (hb3.mono HB2.out.size)
  have HO3 : Hid (W3.heap[w.heap.size]? = some (.cells #[.int .i64 0, .slice none 0 0, .int .i64 0] 82 (0, 0))) := hobj
  clear hobj hb3 hpv2
  obtain ⟨tao, tcap, rfl⟩ := owns_form hMo.told
  have q0 := hMo.cPc
  have q3 := hMo.cPuts
  have q5 := hMo.cTold
  have q6 := hMo.cFin
  have hpx := blk_lt hMo.blk
  have HMo : Hid (Mom W2.heap.size W3 px rb db pv _ (play l (vIn ml) fn mo0) pl) := hMo
  clear hMo
  go_wp2
  go_region
  have hmW : Hid (∀ W', Below W3.heap.size W3 W' → PairsV W' W'.heap.size mv ml) := fun W' hb => by
    obtain ⟨ao, cap, h1, h2, h3⟩ := (HM.out.below HB3.out (Nat.le_refl _)).below hb HB3.out.size
    refine ⟨ao, cap, h1, h2, ?_⟩
    rcases h3 with h3 | ⟨b, off, k1, k2, k3⟩
    · exact Or.inl h3
    · exact Or.inr ⟨b, off, k1, Nat.lt_of_lt_of_le k2 (Nat.le_trans HB3.out.size hb.size), k3⟩
  have hpW : Hid (∀ W', Below W3.heap.size W3 W' → PairsV W' W'.heap.size pv pl) := fun W' hb => by
    obtain ⟨ao, cap, h1, h3⟩ := owns_pairs HMo.out.puts
    refine ⟨ao, cap, h1, by omega, ?_⟩
    rcases h3 with ⟨h3, _⟩ | ⟨g, k1, _, k2, k3⟩
    · exact Or.inl h3
    · exact Or.inr ⟨g, 0, k1, Nat.lt_of_lt_of_le k2 hb.size, k3.below hb k2⟩
  have HErr : Hid (runErr l ml (fn : Int) = 0) := runErr_ok HJ.out HMB.out (by omega) (by omega)
  have hlt2 : w.heap.size < W2.heap.size := blk_lt HO2.out
  have hne : see (vIn ml) (lastP []) = vIn ml := funext (fun k => by simp [see, lastP])
  have HNE : Hid (see (vIn ml) (lastP []) = vIn ml) := hne
  clear hne
  by_cases hfin : (play l (vIn ml) fn mo0).fin = 0
  · by_cases hpc : (l.length : Int) ≤ ((play l (vIn ml) fn mo0).pc : Int)
    · go_wp2
      refine name_wp (p := fun W => W.heap[W3.heap.size]? = some (.cells #[.int .i64 3, .slice tao (play l (vIn ml) fn mo0).told.length tcap, .int .i64 1] 82 (0, 0)) ∧ Below W3.heap.size W3 W) ⟨heap_alloc_new W3 _, ((Below.refl _ _).alloc (Nat.le_refl _) _).drew⟩ ?_
      rintro W4 ⟨hout, hb4⟩
      have r0 : W4.cell? ⟨W3.heap.size, 0, none⟩ = some (.int .i64 3) := by rw [blk_cell hout]; rfl
      have r1 : W4.cell? ⟨W3.heap.size, 1, none⟩ = some (.slice tao (play l (vIn ml) fn mo0).told.length tcap) := by rw [blk_cell hout]; rfl
      have r2 : W4.cell? ⟨W3.heap.size, 2, none⟩ = some (.int .i64 1) := by rw [blk_cell hout]; rfl
      have s3 := (hb4.cell (p := ⟨px, 3, none⟩) hpx).trans q3
      have HO4 : Hid (W4.heap[w.heap.size]? = some (.cells #[.int .i64 0, .slice none 0 0, .int .i64 0] 82 (0, 0))) := (hb4.block _ (blk_lt HO3.out)).trans HO3.out
      have HOut : Hid (W4.heap[W3.heap.size]? = some (.cells #[.int .i64 3, .slice tao (play l (vIn ml) fn mo0).told.length tcap, .int .i64 1] 82 (0, 0))) := hout
      have HB4 : Hid (Below W3.heap.size W3 W4) := hb4
      have HST : Hid ((3 : Int) = endState l (play l (vIn ml) fn mo0)) := by show _ = _; rw [endState, if_pos hfin, if_pos (by omega)]
      have HFE : Hid (see (vIn ml) (lastP pl) = mapAfter l (vIn ml) (play l (vIn ml) fn mo0)) := by show _ = _; rw [show lastP pl = (play l (vIn ml) fn mo0).puts from funext HMo.out.last, mapAfter, if_pos HST.out.symm]
      clear q0 q3 q5 q6 hb4 hout
      go_region_with (go_at_call 55; refine (after_any _ _ ml pl _ (hmW.out _ HB4.out.drew) (hpW.out _ HB4.out.drew)).mono ?_; rintro e W5 ⟨av, rfl, hav, hb5⟩; obtain ⟨t0, t1, t2, z0, z1, z2, zf⟩ := after_facts HOut.out HO4.out hb5)
      all_goals
        go_wp2
        exact bodyPost_ret (v := .tuple #[.agg #[.int .i64 3, .slice tao (play l (vIn ml) fn mo0).told.length tcap, .int .i64 1], av, .int .i64 0]) (by simp [results, Tryz.results28, go_sem, z0, z1, z2]) rfl (ran_ok HErr.out HMo.out hlt2 HB3.out HB4.out hb5 hav HST.out HFE.out)
    · go_wp2
      refine name_wp (p := fun W => W.heap[W3.heap.size]? = some (.cells #[.int .i64 5, .slice tao (play l (vIn ml) fn mo0).told.length tcap, .int .i64 1] 82 (0, 0)) ∧ Below W3.heap.size W3 W) ⟨heap_alloc_new W3 _, ((Below.refl _ _).alloc (Nat.le_refl _) _).drew⟩ ?_
      rintro W4 ⟨hout, hb4⟩
      have r0 : W4.cell? ⟨W3.heap.size, 0, none⟩ = some (.int .i64 5) := by rw [blk_cell hout]; rfl
      have r1 : W4.cell? ⟨W3.heap.size, 1, none⟩ = some (.slice tao (play l (vIn ml) fn mo0).told.length tcap) := by rw [blk_cell hout]; rfl
      have r2 : W4.cell? ⟨W3.heap.size, 2, none⟩ = some (.int .i64 1) := by rw [blk_cell hout]; rfl
      have s3 := (hb4.cell (p := ⟨px, 3, none⟩) hpx).trans q3
      have HO4 : Hid (W4.heap[w.heap.size]? = some (.cells #[.int .i64 0, .slice none 0 0, .int .i64 0] 82 (0, 0))) := (hb4.block _ (blk_lt HO3.out)).trans HO3.out
      have HOut : Hid (W4.heap[W3.heap.size]? = some (.cells #[.int .i64 5, .slice tao (play l (vIn ml) fn mo0).told.length tcap, .int .i64 1] 82 (0, 0))) := hout
      have HB4 : Hid (Below W3.heap.size W3 W4) := hb4
      have HST : Hid ((5 : Int) = endState l (play l (vIn ml) fn mo0)) := by show _ = _; rw [endState, if_pos hfin, if_neg (by omega)]
      have HFE : Hid (see (vIn ml) (lastP []) = mapAfter l (vIn ml) (play l (vIn ml) fn mo0)) := by show _ = _; rw [HNE.out, mapAfter, ← HST.out, if_neg (by decide)]
      clear q0 q3 q5 q6 hb4 hout
      go_region_with (go_at_call 55; refine (after_any _ _ ml [] _ (hmW.out _ HB4.out.drew) ⟨none, 0, rfl, by simp, Or.inl rfl⟩).mono ?_; rintro e W5 ⟨av, rfl, hav, hb5⟩; obtain ⟨t0, t1, t2, z0, z1, z2, zf⟩ := after_facts HOut.out HO4.out hb5)
      all_goals
        go_wp2
        exact bodyPost_ret (v := .tuple #[.agg #[.int .i64 5, .slice tao (play l (vIn ml) fn mo0).told.length tcap, .int .i64 1], av, .int .i64 0]) (by simp [results, Tryz.results28, go_sem, z0, z1, z2]) rfl (ran_ok HErr.out HMo.out hlt2 HB3.out HB4.out hb5 hav HST.out HFE.out)
  · go_wp2
    refine name_wp (p := fun W => W.heap[W3.heap.size]? = some (.cells #[.int .i64 (play l (vIn ml) fn mo0).fin, .slice tao (play l (vIn ml) fn mo0).told.length tcap, .int .i64 1] 82 (0, 0)) ∧ Below W3.heap.size W3 W) ⟨heap_alloc_new W3 _, ((Below.refl _ _).alloc (Nat.le_refl _) _).drew⟩ ?_
    rintro W4 ⟨hout, hb4⟩
    have r0 : W4.cell? ⟨W3.heap.size, 0, none⟩ = some (.int .i64 (play l (vIn ml) fn mo0).fin) := by rw [blk_cell hout]; rfl
    have r1 : W4.cell? ⟨W3.heap.size, 1, none⟩ = some (.slice tao (play l (vIn ml) fn mo0).told.length tcap) := by rw [blk_cell hout]; rfl
    have r2 : W4.cell? ⟨W3.heap.size, 2, none⟩ = some (.int .i64 1) := by rw [blk_cell hout]; rfl
    have s3 := (hb4.cell (p := ⟨px, 3, none⟩) hpx).trans q3
    have HO4 : Hid (W4.heap[w.heap.size]? = some (.cells #[.int .i64 0, .slice none 0 0, .int .i64 0] 82 (0, 0))) := (hb4.block _ (blk_lt HO3.out)).trans HO3.out
    have HOut : Hid (W4.heap[W3.heap.size]? = some (.cells #[.int .i64 (play l (vIn ml) fn mo0).fin, .slice tao (play l (vIn ml) fn mo0).told.length tcap, .int .i64 1] 82 (0, 0))) := hout
    have HB4 : Hid (Below W3.heap.size W3 W4) := hb4
    have HST : Hid (((play l (vIn ml) fn mo0).fin : Int) = endState l (play l (vIn ml) fn mo0)) := by show _ = _; rw [endState, if_neg hfin]
    have HFE : Hid (see (vIn ml) (lastP []) = mapAfter l (vIn ml) (play l (vIn ml) fn mo0)) := by show _ = _; rw [HNE.out, mapAfter, ← HST.out, if_neg (by rcases play_fin l (vIn ml) fn mo0 (Or.inl rfl) with e | e | e <;> omega)]
    clear q0 q3 q5 q6 hb4 hout
    go_region_with (go_at_call 55; refine (after_any _ _ ml [] _ (hmW.out _ HB4.out.drew) ⟨none, 0, rfl, by simp, Or.inl rfl⟩).mono ?_; rintro e W5 ⟨av, rfl, hav, hb5⟩; obtain ⟨t0, t1, t2, z0, z1, z2, zf⟩ := after_facts HOut.out HO4.out hb5)
    all_goals
      go_wp2
      exact bodyPost_ret (v := .tuple #[.agg #[.int .i64 (play l (vIn ml) fn mo0).fin, .slice tao (play l (vIn ml) fn mo0).told.length tcap, .int .i64 1], av, .int .i64 0]) (by simp [results, Tryz.results28, go_sem, z0, z1, z2]) rfl (ran_ok HErr.out HMo.out hlt2 HB3.out HB4.out hb5 hav HST.out HFE.out)
theorem refRun_any (v mv : Value) (l : List St) (ml : List (Int × Int)) (fuel : Int) (w : World) (hs : StepsV w v l) (hm : PairsV w w.heap.size mv ml) :
    Calls Tryz.prog 28 #[v, mv, .int .i64 fuel] w fun e w' => Ran l ml fuel w e w' := by
  by_cases h : jobB l = true ∧ mapB ml = true ∧ 1 ≤ fuel ∧ fuel ≤ 200
  · obtain ⟨h1, h2, h3, h4⟩ := h
    obtain ⟨fn, rfl⟩ : ∃ fn : Nat, fuel = fn := ⟨fuel.toNat, by omega⟩
    exact refRun_good v mv l ml fn w hs hm h1 h2 (by omega) (by omega)
  · exact refRun_bad v mv l ml fuel w hs hm h
end Go.Proofs.YtlbmcdoldnajoaaGreat
