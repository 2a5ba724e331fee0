import Derived.Test.YtlbmcdoldnajoaaGreatLawK
import Derived.Test.YtlbmcdoldnajoaaGreatFrA
set_option maxRecDepth 100000
set_option maxHeartbeats 4000000
namespace Go.Proofs.YtlbmcdoldnajoaaGreat
open Go.RowKit
attribute [local go_sem ↓] Go.wp_at_zero Go.wp_at_succ
theorem ranL_at (K : DeskKit) (Inv : DeskM → Prop) (own : Nat → Nat) (ds : List DP) (hrun : RunOK) (W0 W : World) (pb : Nat) (dv : Value) (one : Bool) (iv pv : Value) (vs ps : List Value) (v : Value) (l : List St) (ma : Option Addr) (mc n : Nat) (ml : List (Int × Int)) (fuel : Int)
    (h : LA K Inv W0.heap.size own W pb dv one iv pv vs ps ds) (hvs : vs.length ≤ 100000000000) (hps : ps.length ≤ 100000000000) (hb0 : Below W0.heap.size W0 W) (hs : StepsV W0 v l) (hl : l.length * 32 ≤ 140737488351232) (hn : n = ml.length) (hm : PairsV W0 W0.heap.size (.slice ma n mc) ml) (hml : n * 16 ≤ 140737488351232) :
    Calls Tryz.prog 14 #[.pointer (some ⟨pb, 0, none⟩), v, .slice ma n mc, .int .i64 fuel] W fun e w' => Said1L K Inv W0.heap.size W pb dv one vs ps ds 4 4 e w' := by
  have HR : Hid RunOK := hrun
  have HL : Hid (LW W0.heap.size W pb dv one iv pv vs ps) := h.lw
  have HLA : Hid (LA K Inv W0.heap.size (mine own W.heap.size) W pb dv one iv pv vs ps ds) := h.mine
  have HB0 : Hid (Below W0.heap.size W0 W) := hb0
  have HS : Hid (StepsV W0 v l) := hs
  have HM : Hid (PairsV W0 W0.heap.size (.slice ma n mc) ml) := hm
  have HN : Hid (n = ml.length) := hn
  have hz0 := hb0.size
  have hvv : Hid (vs.length ≤ 100000000000 ∧ ps.length ≤ 100000000000) := ⟨hvs, hps⟩
  clear hrun h hb0 hs hm hn hvs hps
  obtain ⟨i0, hi, hi0, hi1, hi2⟩ := info_parts Tryz.infoPair
  go_enter Tryz.func14, Tryz.ntmps14
  go_wp2_with (first | (go_at_call 23; refine (roomy_any _ l _ (HS.out.below HB0.out) hl).mono ?_; rintro e w1 ⟨g, rfl, hg1, hg2, hst1, hb1⟩) | (at_make; refine wpList_make_full _ rfl _ _ 36 rfl w1.heap.size 58 i0 _ 2 Tryz.underlying36 hi hi0 hi1 _ _ _ _ (n + 1) rfl rfl (by omega) (by omega) ?b2 ?b3 (Nat.le_refl _) ?_))
  case b2 => rw [hi2]; omega
  case b3 => unfold maxLen; omega
  intro w2 hown hgrow
  have HST : Hid (StepsAt w1 g 0 (l ++ [stw])) := hst1
  have HB1 : Hid (Below W.heap.size W w1) := hb1
  have hz1 := hb1.size
  clear hst1 hb1
  obtain ⟨cur, hrow, hcl⟩ := owns_row hown
  have HB2 : Hid (Below w1.heap.size w1 w2) := (Below.refl _ _).grown hgrow (Nat.le_refl _) (fun k h => by cases h)
  have hz2 := HB2.out.size
  have hz2' := blk_lt hrow
  have hpos : Hid (0 < n → ∃ ad, ma = some ad ∧ ∀ j v, (prCells ml)[j]? = some v → w2.cell? (ad.add j) = some v) := fun h0 => by
    obtain ⟨ao, cap, e, _, h1⟩ := HM.out
    injection e with e1 e2 e3
    subst e1
    rcases h1 with rfl | ⟨b, off, rfl, hb, hp⟩
    · have := HN.out; simp at this; omega
    · exact ⟨_, rfl, (((hp.below HB0.out hb).below HB1.out (by omega)).below HB2.out (by omega)).cells⟩
  have HRow : Hid (w2.heap[w1.heap.size]? = some (.cells cur.toArray 58 (0, 0))) := hrow
  clear hown hgrow hrow
  go_wp2_with (refine wpList_copy_wide rfl (.tmp 27) (.tmp 28) 36 36 rfl 58 2 Tryz.underlying36 Tryz.sizePair _ _ _ _ _ _ n rfl rfl (Nat.min_eq_left (Nat.le_succ n)) w1.heap.size 0 cur 58 HRow.out (prCells ml) (by rw [length_prCells, HN.out]) (fun h0 => ⟨rfl, hpos.out h0⟩) (by rw [length_prCells, hcl, ← HN.out]; omega) (prCells_oneCell ml) w1.heap.size w1 HB2.out (Nat.le_refl _) ?_)
  intro w3 hg3 hb3 hs3
  have HO3 : Hid (w3.ownsRow w1.heap.size 58 2 (.slice (some ⟨w1.heap.size, 0, none⟩) (n + 1) (n + 1)) (n + 1) (prCells ml ++ cur.drop (n * 2))) := by
    have e : splice cur 0 (prCells ml) = prCells ml ++ cur.drop (n * 2) := by simp [splice, length_prCells, HN.out]
    have hlen : (prCells ml ++ cur.drop (n * 2)).length = (n + 1) * 2 := by simp [length_prCells, HN.out] at hcl ⊢; omega
    refine ⟨hlen, Or.inr ⟨_, n + 1, _, rfl, Nat.le_refl _, hg3.out, Nat.le_refl _, by unfold maxLen; omega, ?_, ?_⟩⟩
    · rw [e]; simpa using hlen
    · rw [e]; show List.take _ (prCells ml ++ cur.drop (n * 2)) = _; rw [← hlen]; exact List.take_length
  have HB3 : Hid (Below w1.heap.size w1 w3) := hb3
  have hcells : ∀ j, j < (n + 1) * 2 → ∃ x, w3.cell? ⟨w1.heap.size, j, none⟩ = some x := fun j hj => by
    rw [HO3.out.cellAt j hj]
    exact ⟨_, List.getElem?_eq_getElem (by have := HO3.out.1; omega)⟩
  obtain ⟨x0, hx0⟩ := hcells (n * 2) (by omega)
  obtain ⟨x1, hx1⟩ := hcells (n * 2 + 1) (by omega)
  have hf0 := HO3.out.frozenAt (n * 2)
  have hf1 := HO3.out.frozenAt (n * 2 + 1)
  have hlt3 : w1.heap.size < w3.heap.size := by omega
  have HCL : Hid (cur.length = (n + 1) * 2) := hcl
  clear hcells hi hi0 hi1 hi2 hb3 hg3 hcl hpos HRow
  have m1 : (0 : Int) ≤ (n : Int) := by omega
  have m2 : (n : Int) < (n : Int) + 1 := by omega
  go_wp2_with (go_at_call 18; refine (badPair_any (-1) _ (by omega) (by omega)).mono ?_; rintro e w' ⟨rfl, rfl⟩)
  refine name_calls (p := fun W4 => Below W.heap.size W W4 ∧ StepsAt W4 g 0 (l ++ [stw]) ∧ W4.ownsRow w1.heap.size 58 2 (.slice (some ⟨w1.heap.size, 0, none⟩) (n + 1) (n + 1)) (n + 1) (prCells (ml ++ [prw])) ∧ w1.heap.size < W4.heap.size) ⟨?_, ?_, ?_, ?_⟩ ?_
  · exact (HB1.out.trans (((HB3.out.mono hz1).setCell (p := ⟨w1.heap.size, n * 2, none⟩) hz1 _).setCell (p := ⟨w1.heap.size, n * 2 + 1, none⟩) hz1 _)).alloc (by simp; omega) _
  · exact HST.out.below (((HB3.out.setCell (p := ⟨w1.heap.size, n * 2, none⟩) (Nat.le_refl _) _).setCell (p := ⟨w1.heap.size, n * 2 + 1, none⟩) (Nat.le_refl _) _).alloc (by simp; omega) _) hg2
  · have := (((HO3.out.stored (n * 2) (.int .i64 (-999))).1).stored (n * 2 + 1) (.int .i64 (-1))).1
    rw [HN.out, row_prw ml _ (by have := HCL.out; have := HN.out; simp; omega), ← HN.out] at this
    exact this.alloc _
  · simp; omega
  rintro W4 ⟨k1, k2, k3, k4⟩
  clear hx0 hx1 hf0 hf1 hlt3 HCL m1 m2 HO3 HB3 HB2 HB1 HST hs3 hz2 hz2'
  generalize w1.heap.size = gp at hg2 hz1 k3 k4 ⊢
  have HB4 : Hid (Below W.heap.size W W4) := k1
  have HST : Hid (StepsAt W4 g 0 (l ++ [stw])) := k2
  have HO4 : Hid (W4.ownsRow gp 58 2 (.slice (some ⟨gp, 0, none⟩) (n + 1) (n + 1)) (n + 1) (prCells (ml ++ [prw]))) := k3
  clear k1 k2 k3
  have HV : Hid (∀ w, StepsAt w g 0 (l ++ [stw]) → g < w.heap.size → StepsV w (.slice (some ⟨g, 0, none⟩) l.length (l.length + 1)) l) := fun w hw hg => ⟨_, _, rfl, Or.inr ⟨g, 0, rfl, hg, fun i hi => by
    have := hw i (by simp; omega)
    rwa [show (l ++ [stw]).getD i stz = l.getD i stz by simp [List.getD, List.getElem?_append_left hi]] at this⟩⟩
  have HPV : Hid (∀ w, w.ownsRow gp 58 2 (.slice (some ⟨gp, 0, none⟩) (n + 1) (n + 1)) (n + 1) (prCells (ml ++ [prw])) → gp < w.heap.size → PairsV w w.heap.size (.slice (some ⟨gp, 0, none⟩) n (n + 1)) ml) := fun w hw hg => by
    refine ⟨_, _, by rw [← HN.out], by have := HN.out; omega, Or.inr ⟨gp, 0, rfl, hg, pairsAt_own hw (fun j u hj => ?_)⟩⟩
    rw [prCells_append]; exact prefix_get hj
  have hz4 := HB4.out.size
  refine (HR.out _ _ l ml fuel W4 (HV.out W4 HST.out (by omega)) (HPV.out W4 HO4.out k4)).mono ?_
  rintro e W5 ⟨tv, av, rfl, h1, h2, h3⟩
  obtain ⟨ta, tc, rfl⟩ := owns_form h1
  obtain ⟨aa, ac, rfl⟩ := owns_form h2
  have hnt := runTold_len l ml fuel
  have hnm := runMap_len l ml fuel
  generalize hNT : (runTold l ml fuel).length = nt at *
  generalize hNM : (runMap l ml fuel).length = nm at *
  have HNT : Hid ((runTold l ml fuel).length = nt) := hNT
  have HNM : Hid ((runMap l ml fuel).length = nm) := hNM
  have HT : Hid (W5.ownsRow W4.heap.size 3 1 (.slice ta nt tc) nt ((runTold l ml fuel).map (Value.int .i64))) := h1
  have HA : Hid (W5.ownsRow W4.heap.size 58 2 (.slice aa nm ac) nm (prCells (runMap l ml fuel))) := h2
  have HB5 : Hid (Below W4.heap.size W4 W5) := h3
  have hz5 := h3.size
  clear h1 h2 h3
  go_wp2_with fail
  refine name_calls (p := fun X => Below W5.heap.size W5 X ∧ X.heap[W5.heap.size]? = some (.cells #[.int .i64 (runSt l ml fuel), .slice ta nt tc, .int .i64 (runTries l ml fuel)] 82 (0, 0))) ⟨(Below.refl _ _).alloc (Nat.le_refl _) _, heap_alloc_new _ _⟩ ?_
  rintro X5 ⟨k1, k2⟩
  have HBX : Hid (Below W4.heap.size W4 X5) := HB5.out.trans (k1.mono hz5)
  have HTX : Hid (X5.ownsRow W4.heap.size 3 1 (.slice ta nt tc) nt ((runTold l ml fuel).map (Value.int .i64))) := owns_keep HT.out k1
  have HAX : Hid (X5.ownsRow W4.heap.size 58 2 (.slice aa nm ac) nm (prCells (runMap l ml fuel))) := owns_keep HA.out k1
  have HQ5 : Hid (X5.heap[W5.heap.size]? = some (.cells #[.int .i64 (runSt l ml fuel), .slice ta nt tc, .int .i64 (runTries l ml fuel)] 82 (0, 0))) := k2
  have hbo := blk_lt k2
  clear k1 k2 HT HA HB5
  generalize W5.heap.size = bo at hz5 HQ5 hbo ⊢
  have HB0X : Hid (Below W0.heap.size W0 X5) := (HB0.out.trans (HB4.out.mono hz0)).trans (HBX.out.mono (by omega))
  have hzx := HBX.out.size
  refine (refRun_any _ _ l ml fuel X5 (HS.out.below HB0X.out) ((HM.out.below HB0X.out (Nat.le_refl _)).wide HB0X.out.size)).mono ?_
  rintro e W6 ⟨uv, bv, rfl, h1, h2, h3⟩
  obtain ⟨ua, uc, rfl⟩ := owns_form h1
  obtain ⟨ba, bc, rfl⟩ := owns_form h2
  rw [hNT] at h1
  rw [hNM] at h2
  simp only [hNT, hNM]
  clear hNT hNM
  have HU : Hid (W6.ownsRow X5.heap.size 3 1 (.slice ua nt uc) nt ((runTold l ml fuel).map (Value.int .i64))) := h1
  have HD : Hid (W6.ownsRow X5.heap.size 58 2 (.slice ba nm bc) nm (prCells (runMap l ml fuel))) := h2
  have HB6 : Hid (Below X5.heap.size X5 W6) := h3
  have hz6 := h3.size
  have d0 : W6.cell? ⟨bo, 0, none⟩ = some (.int .i64 (runSt l ml fuel)) := by rw [h3.cell hbo, blk_cell HQ5.out]; rfl
  have d1 : W6.cell? ⟨bo, 1, none⟩ = some (.slice ta nt tc) := by rw [h3.cell hbo, blk_cell HQ5.out]; rfl
  have d2 : W6.cell? ⟨bo, 2, none⟩ = some (.int .i64 (runTries l ml fuel)) := by rw [h3.cell hbo, blk_cell HQ5.out]; rfl
  have hbo6 : bo < W6.heap.size := by omega
  clear h1 h2 h3
  go_wp2_with fail
  refine name_calls (p := fun X => Below W6.heap.size W6 X) ((Below.refl _ _).alloc (Nat.le_refl _) _) ?_
  intro X6 k1
  have HB6' : Hid (Below X5.heap.size X5 X6) := HB6.out.trans (k1.mono hz6)
  have HT6 : Hid (X6.ownsRow W4.heap.size 3 1 (.slice ta nt tc) nt ((runTold l ml fuel).map (Value.int .i64))) := owns_keep HTX.out HB6'.out
  have HA6 : Hid (X6.ownsRow W4.heap.size 58 2 (.slice aa nm ac) nm (prCells (runMap l ml fuel))) := owns_keep HAX.out HB6'.out
  have HU6 : Hid (X6.ownsRow X5.heap.size 3 1 (.slice ua nt uc) nt ((runTold l ml fuel).map (Value.int .i64))) := owns_keep HU.out k1
  have HD6 : Hid (X6.ownsRow X5.heap.size 58 2 (.slice ba nm bc) nm (prCells (runMap l ml fuel))) := owns_keep HD.out k1
  have HB64 : Hid (Below W4.heap.size W4 X6) := HBX.out.trans (HB6'.out.mono hzx)
  have q1 : X6.cell? ⟨bo, 1, none⟩ = some (.slice ta nt tc) := (k1.cell hbo6).trans d1
  have hz6' := k1.size
  clear k1 d0 d1 d2 HU HD HTX HAX HB6 HB6' HB0X HBX
  refine (pivotlaw_sameOutcome_any _ _ _ _ _ _ (runTold l ml fuel) (runTold l ml fuel) X6 (intsV_own (by rw [HNT.out]; exact HT6.out) (by rw [HNT.out]; omega)) (intsV_own (by rw [HNT.out]; exact HU6.out) (by rw [HNT.out]; omega))).mono ?_
  rintro e W7 ⟨rfl, h7⟩
  simp only [decide_true, Bool.and_self]
  have HT7 : Hid (W7.ownsRow W4.heap.size 3 1 (.slice ta nt tc) nt ((runTold l ml fuel).map (Value.int .i64))) := owns_keep HT6.out h7
  have HA7 : Hid (W7.ownsRow W4.heap.size 58 2 (.slice aa nm ac) nm (prCells (runMap l ml fuel))) := owns_keep HA6.out h7
  have HD7 : Hid (W7.ownsRow X5.heap.size 58 2 (.slice ba nm bc) nm (prCells (runMap l ml fuel))) := owns_keep HD6.out h7
  have HB74 : Hid (Below W4.heap.size W4 W7) := HB64.out.trans (h7.mono (by omega))
  have q2 : W7.cell? ⟨bo, 1, none⟩ = some (.slice ta nt tc) := (h7.cell (show bo < _ from by omega)).trans q1
  have hz7 := h7.size
  clear h7 q1 HT6 HA6 HU6 HD6 HB64
  go_wp2_with fail
  refine (pivotlaw_samePairs_any _ _ W7.heap.size W7.heap.size (runMap l ml fuel) (runMap l ml fuel) W7 (pairsV_own (by rw [HNM.out]; exact HA7.out) (by rw [HNM.out]; omega)) (pairsV_own (by rw [HNM.out]; exact HD7.out) (by rw [HNM.out]; omega))).mono ?_
  rintro e W8 ⟨rfl, h8⟩
  simp only [decide_true]
  have HT8 : Hid (W8.ownsRow W4.heap.size 3 1 (.slice ta nt tc) nt ((runTold l ml fuel).map (Value.int .i64))) := owns_keep HT7.out h8
  have HA8 : Hid (W8.ownsRow W4.heap.size 58 2 (.slice aa nm ac) nm (prCells (runMap l ml fuel))) := owns_keep HA7.out h8
  have HB84 : Hid (Below W4.heap.size W4 W8) := HB74.out.trans (h8.mono (by omega))
  have q3 : W8.cell? ⟨bo, 1, none⟩ = some (.slice ta nt tc) := (h8.cell (show bo < _ from by omega)).trans q2
  have hz8 := h8.size
  clear h8 q2 HT7 HA7 HD7 HB74
  go_wp2_with fail
  have HL8 : Hid (LA K Inv W0.heap.size (mine own W.heap.size) W8 pb dv one iv pv vs ps ds) := HLA.out.below (HB4.out.trans (HB84.out.mono hz4))
  refine (keepInts_any W0.heap.size W8 pb dv one iv pv vs ps _ nt _ (by have := hvv.out; omega) HL8.out.lw (owns_base HT8.out (by omega)) (by omega) (HL.out.freshI HT8.out hz4)).mono ?_
  rintro e W9 hk9
  obtain ⟨he9, iv', vs', L9, hvl9, _⟩ := LA.keptI (n0 := W.heap.size) HL8.out (by omega) (owns_base HT8.out hz4) hk9
  obtain ⟨_, _, _, _, _, _, F9, _⟩ := hk9
  subst he9
  have hpb := blk_lt HL.out.blk
  have HA9 : Hid (W9.ownsRow W4.heap.size 58 2 (.slice aa nm ac) nm (prCells (runMap l ml fuel))) := owns_fr HA8.out F9 (fun k hk hS => by
    have := owns_lt HA8.out hk
    rcases hS with rfl | hS | hS
    · omega
    · have := owns_lt HL.out.ints hS; omega
    · exact own_types HA8.out HT8.out (by decide) hk hS)
  have HK9 : Hid (∀ k, W.heap.size ≤ k → k < W4.heap.size → W9.heap[k]? = W4.heap[k]?) := fun k hk1 hk2 => by
    rw [F9.block k (by omega) (fun hS => by
      rcases hS with rfl | hS | hS
      · omega
      · have := owns_lt HL.out.ints hS; omega
      · have := owns_lt HT8.out hS; omega)]
    exact HB84.out.block k hk2
  have HB89 : Hid (Below W0.heap.size W8 W9) := F9.below (fun k hS => by
      rcases hS with rfl | hS | hS
      · exact HL.out.bpb
      · exact (owns_lt HL.out.ints hS).1
      · have := owns_lt HT8.out hS; omega) (by omega)
  have HL9 : Hid (LA K Inv W0.heap.size (mine own W.heap.size) W9 pb dv one iv' pv vs' ps ds) := L9
  have HVl : Hid (vs'.length = vs.length + 4) := hvl9
  have hz9 := HB89.out.size
  clear q3 L9 F9 hvl9
  go_wp2_with fail
  refine (keepPairs_any W0.heap.size W9 pb dv one iv' pv _ ps _ nm _ (by have := hvv.out; omega) HL9.out.lw (owns_base HA9.out (by omega)) (by omega) (HL.out.freshP HA9.out hz4)).mono ?_
  rintro e W10 hk10
  obtain ⟨he10, pv', ps', L10, hpl10, _⟩ := LA.keptP (n0 := W.heap.size) HL9.out (by omega) (owns_base HA9.out hz4) hk10
  obtain ⟨_, _, _, _, _, _, F10, _⟩ := hk10
  subst he10
  have HK10 : Hid (∀ k, W.heap.size ≤ k → k < W4.heap.size → W10.heap[k]? = W4.heap[k]?) := fun k hk1 hk2 => by
    rw [F10.block k (by omega) (fun hS => by
      rcases hS with rfl | hS | hS
      · omega
      · have := owns_lt HL.out.prs hS; omega
      · have := owns_lt HA9.out hS; omega)]
    exact HK9.out k hk1 hk2
  have HB910 : Hid (Below W0.heap.size W9 W10) := F10.below (fun k hS => by
      rcases hS with rfl | hS | hS
      · exact HL.out.bpb
      · exact (owns_lt HL.out.prs hS).1
      · have := owns_lt HA9.out hS; omega) (by omega)
  have HL10 : Hid (LA K Inv W0.heap.size (mine own W.heap.size) W10 pb dv one iv' pv' vs' ps' ds) := L10
  have HPl : Hid (ps'.length = ps.length + 4) := hpl10
  have hz10 := HB910.out.size
  clear L10 F10 hpl10
  have HC10 : Hid (Below W0.heap.size W W10) := (((HB4.out.mono hz0).trans (HB84.out.mono (by omega))).trans HB89.out).trans HB910.out
  have HB10 : Hid (Below W0.heap.size W0 W10) := (((HB0.out.trans (HB4.out.mono hz0)).trans (HB84.out.mono (by omega))).trans HB89.out).trans HB910.out
  have HS10 : Hid (StepsAt W10 g 0 (l ++ [stw])) := HST.out.same (HK10.out g hg1 (by omega))
  have HO10 : Hid (W10.ownsRow gp 58 2 (.slice (some ⟨gp, 0, none⟩) (n + 1) (n + 1)) (n + 1) (prCells (ml ++ [prw]))) := owns_same HO4.out (HK10.out gp hz1 k4)
  clear HK9 HK10 HB89 HB910 HB84 HL9 HA9 HA8 HT8 HST HO4
  go_wp2_with fail
  refine (still_any g _ l W10 (by omega) (by omega) HS10.out (HS.out.below HB10.out)).mono ?_
  rintro e W11 ⟨rfl, h11⟩
  have HC11 : Hid (Below W0.heap.size W W11) := HC10.out.trans (h11.mono (by omega))
  have HL11 : Hid (LA K Inv W0.heap.size (mine own W.heap.size) W11 pb dv one iv' pv' vs' ps' ds) := HL10.out.below h11
  have HB11 : Hid (Below W0.heap.size W0 W11) := HB10.out.trans (h11.mono (by omega))
  have HO11 : Hid (W11.ownsRow gp 58 2 (.slice (some ⟨gp, 0, none⟩) (n + 1) (n + 1)) (n + 1) (prCells (ml ++ [prw]))) := owns_keep HO10.out h11
  have hz11 := h11.size
  clear h11
  have m1 : (0 : Int) ≤ (n : Int) := by omega
  have m2 : (n : Int) ≤ (n : Int) + 1 := by omega
  go_wp2_with fail
  refine (pivotlaw_samePairs_any _ _ W11.heap.size W0.heap.size ml ml W11 (HPV.out W11 HO11.out (by omega)) (HM.out.below HB11.out (Nat.le_refl _))).mono ?_
  rintro e W12 ⟨rfl, h12⟩
  simp only [decide_true]
  have HC12 : Hid (Below W0.heap.size W W12) := HC11.out.trans (h12.mono (by omega))
  have HL12 : Hid (LA K Inv W0.heap.size (mine own W.heap.size) W12 pb dv one iv' pv' vs' ps' ds) := HL11.out.below h12
  have HB12 : Hid (Below W0.heap.size W0 W12) := HB11.out.trans (h12.mono (by omega))
  have HO12 := owns_keep HO11.out h12
  have hz12 := h12.size
  have hpw := prCells_get (ml ++ [prw]) n (by simp [← HN.out])
  rw [show (ml ++ [prw]).getD n pz = prw by rw [HN.out]; simp [List.getD]] at hpw
  have c0 : W12.cell? ⟨gp, n * 2, none⟩ = some (.int .i64 (-999)) := by rw [HO12.cellAt _ (by omega)]; exact hpw.1
  have c1 : W12.cell? ⟨gp, n * 2 + 1, none⟩ = some (.int .i64 (-1)) := by rw [HO12.cellAt _ (by omega)]; exact hpw.2
  clear hpw HO12 h12 HO11 HO10 HS10 HB11 HB10 HL11 HL10 HPV HV HM HS HR HB4 HB0 m2 hl hml
  have m3 : (n : Int) < (n : Int) + 1 := by omega
  go_wp2
  go_region_held3 (fun w' => w'.cell? ⟨gp, n * 2, none⟩ = some (.int .i64 (-999)) ∧ w'.cell? ⟨gp, n * 2 + 1, none⟩ = some (.int .i64 (-1))) (go_keep)
    (first | (go_at_call 18; refine (badPair_any (-1) _ (by omega) (by omega)).mono ?_; rintro e w' ⟨rfl, rfl⟩))
  go_wp2
  go_ret
  exact ⟨rfl, _, iv', pv', vs', ps', HL12.out.below (((Below.refl _ _).alloc (Nat.le_refl _) _).drew), HVl.out, HPl.out, (HC12.out.alloc (by omega) _).drew⟩
theorem ranL_any (K : DeskKit) (Inv : DeskM → Prop) (own : Nat → Nat) (ds : List DP) (hrun : RunOK) (W0 W : World) (pb : Nat) (dv : Value) (one : Bool) (iv pv : Value) (vs ps : List Value) (v mv : Value) (l : List St) (ml : List (Int × Int)) (fuel : Int)
    (h : LA K Inv W0.heap.size own W pb dv one iv pv vs ps ds) (hvs : vs.length ≤ 100000000000) (hps : ps.length ≤ 100000000000) (hb0 : Below W0.heap.size W0 W) (hs : StepsV W0 v l) (hl : l.length * 32 ≤ 140737488351232) (hm : PairsV W0 W0.heap.size mv ml) (hml : ml.length * 16 ≤ 140737488351232) :
    Calls Tryz.prog 14 #[.pointer (some ⟨pb, 0, none⟩), v, mv, .int .i64 fuel] W fun e w' => Said1L K Inv W0.heap.size W pb dv one vs ps ds 4 4 e w' := by
  have hm' := hm
  obtain ⟨ma, mc, rfl, _⟩ := hm
  exact ranL_at K Inv own ds hrun W0 W pb dv one iv pv vs ps v l ma mc _ ml fuel h hvs hps hb0 hs hl rfl hm' hml
end Go.Proofs.YtlbmcdoldnajoaaGreat
