/- FrW, SaidF -/
import Derived.Test.YtlbmcdoldnajoaaFrA
import Derived.Test.YtlbmcdoldnajoaaSaidKit

/- Framed: the walk. -/
namespace Go.Proofs.Ytlbmcdoldnajoaa
open Go.RowKit

set_option maxRecDepth 100000 in
set_option maxHeartbeats 4000000 in
theorem framed_walk (v0 v1 : Value) (xs vs : List Int) (which fuel : Int) (w : World) (hx : ∀ x ∈ xs, i64B x) (hv : ∀ x ∈ vs, i64B x) (hxs : IntsV w v0 xs) (hvs : IntsV w v1 vs) (hcap : ∀ ao n cap, v0 = .slice ao n cap → n ≤ cap) (hwh : i64B which) (hfu : i64B fuel) :
    Calls Try.prog 7 #[v0, v1, .int .i64 which, .int .i64 fuel] w fun e w' => e = .returned (.bool true) ∧ Below w.heap.size w w' := by
  have HI : Hid ((∀ x ∈ xs, i64B x) ∧ (∀ x ∈ vs, i64B x) ∧ (∀ ao n cap, v0 = .slice ao n cap → n ≤ cap) ∧ i64B which ∧ i64B fuel) := ⟨hx, hv, hcap, hwh, hfu⟩
  have K0 : Kp (fun W => (IntsV W v0 xs ∧ IntsV W v1 vs) ∧ Below w.heap.size w W) w := ((kp_ints hxs).and (kp_ints hvs)).and (kp_below (Below.refl _ _))
  have HK0 : Hid (Kp (fun W => (IntsV W v0 xs ∧ IntsV W v1 vs) ∧ Below w.heap.size w W) w) := K0
  clear hx hv hxs hvs hcap hwh hfu K0
  obtain ⟨k, hk⟩ : ∃ k, k = pickI which 16 := ⟨_, rfl⟩
  have k1 := pickI_lo which (n := 16) (by omega)
  have k2 := pickI_hi which (n := 16) (by omega)
  obtain ⟨f, hf⟩ : ∃ f, f = pickI fuel 200 := ⟨_, rfl⟩
  have f1 := pickI_lo fuel (n := 200) (by omega)
  have f2 := pickI_hi fuel (n := 200) (by omega)
  have HKF : Hid (k = pickI which 16 ∧ f = pickI fuel 200) := ⟨hk, hf⟩
  rw [← hk] at k1 k2
  rw [← hf] at f1 f2
  clear hk hf
  obtain ⟨l, hl⟩ : ∃ l, l = mkL xs 0 16 := ⟨_, rfl⟩
  obtain ⟨ml, hml⟩ : ∃ ml, ml = mapL vs := ⟨_, rfl⟩
  have HJ : Hid (jobB l = true ∧ mapB ml = true ∧ l.length ≤ 32 ∧ ml.length ≤ 16) := by
    rw [hl, hml]
    exact ⟨mkL_job xs, mapL_good vs, by rw [mkL_len]; exact Nat.min_le_left _ _, mapL_len vs⟩
  have HL : Hid (l = mkL xs 0 16 ∧ ml = mapL vs) := ⟨hl, hml⟩
  clear hl hml
  have wf : IntKind.i64.wrap (1 + f) = 1 + f := by rw [IntKind.wrap_i64]; omega
  go_enter Try.func7, Try.ntmps7
  go_wp2_with fail
  refine (plain_any run_ok w).mono ?_
  rintro e W1 ⟨rfl, hb⟩
  have HK1 : Hid (Kp (fun W => (IntsV W v0 xs ∧ IntsV W v1 vs) ∧ Below w.heap.size w W) W1) := HK0.out.next hb
  clear hb HK0
  go_wp2_with fail
  refine (every_any W1).mono ?_
  rintro e W2 ⟨rfl, hb⟩
  have HK2 : Hid (Kp (fun W => (IntsV W v0 xs ∧ IntsV W v1 vs) ∧ Below w.heap.size w W) W2) := HK1.out.next hb
  clear hb HK1
  go_wp2_with fail
  refine (made_any v0 xs 0 16 W2 HI.out.1 HK2.out.now.1.1 HI.out.2.2.1 (by omega) (by omega) (by omega) (by omega)).mono ?_
  rintro e W3 ⟨sv, rfl, hown, hb⟩
  rw [← HL.out.1] at hown
  have HK3 : Hid (Kp (fun W => ((IntsV W v0 xs ∧ IntsV W v1 vs) ∧ Below w.heap.size w W) ∧ StepsV W sv l) W3) := (HK2.out.next hb).and (kp_steps (stepsV_own hown))
  clear hb hown HK2
  go_wp2_with fail
  refine (pairs_any v1 vs W3 HI.out.2.1 HK3.out.now.1.1.2).mono ?_
  rintro e W4 ⟨mv, rfl, hown, hb⟩
  rw [← HL.out.2] at hown
  have HK4 : Hid (Kp (fun W => (((IntsV W v0 xs ∧ IntsV W v1 vs) ∧ Below w.heap.size w W) ∧ StepsV W sv l) ∧ PairsV W W.heap.size mv ml) W4) := (HK3.out.next hb).and (kp_pairs (pairsV_own hown (by have := HJ.out.2.2.2; omega)))
  clear hb hown HK3
  go_wp2_with fail
  refine (pick_any which 16 _ HI.out.2.2.2.1 (by omega) (by omega)).mono ?_
  rintro e w' ⟨rfl, h⟩
  obtain rfl := h.symm
  clear h
  rw [← HKF.out.1]
  go_wp2_with fail
  refine (pick_any fuel 200 _ HI.out.2.2.2.2 (by omega) (by omega)).mono ?_
  rintro e w' ⟨rfl, h⟩
  obtain rfl := h.symm
  clear h
  rw [← HKF.out.2]
  go_wp2_with fail
  refine (run_ok sv mv l ml (1 + f) W4 HK4.out.now.1.2 HK4.out.now.2).mono ?_
  rintro e W5 ⟨tv, av, rfl, h1, h2, hb⟩
  have hend := run_endB (l := l) (ml := ml) (f := 1 + f) HJ.out.1 HJ.out.2.1 (by omega) (by omega)
  obtain ⟨e1, e2, _, _, _⟩ := run_facts (l := l) (ml := ml) (f := 1 + f) HJ.out.1 HJ.out.2.1 (by omega) (by omega)
  rw [e1, e2]
  have htl := runTold_len l ml (1 + f)
  have hal := runMap_len l ml (1 + f)
  obtain ⟨st, hst⟩ : ∃ st, st = runSt l ml (1 + f) := ⟨_, rfl⟩
  obtain ⟨tl, htL⟩ : ∃ tl, tl = runTold l ml (1 + f) := ⟨_, rfl⟩
  obtain ⟨al, haL⟩ : ∃ al, al = runMap l ml (1 + f) := ⟨_, rfl⟩
  have HR1 : Hid (st = runSt l ml (1 + f) ∧ tl = runTold l ml (1 + f) ∧ al = runMap l ml (1 + f)) := ⟨hst, htL, haL⟩
  rw [← hst] at hend ⊢
  rw [← htL] at h1 htl
  rw [← haL] at h2 hal
  have HEnd : Hid (EndB st = true) := hend
  obtain ⟨ta, tc, rfl⟩ := owns_form h1
  obtain ⟨aa, ac, rfl⟩ := owns_form h2
  have HK5 : Hid (Kp (fun W => ((((((IntsV W v0 xs ∧ IntsV W v1 vs) ∧ Below w.heap.size w W) ∧ StepsV W sv l) ∧ PairsV W W.heap.size mv ml) ∧ IntsV W (.slice ta tl.length tc) tl) ∧ PairsV W W.heap.size (.slice aa al.length ac) al)) W5) := ((HK4.out.next hb).and (kp_ints (intsV_own h1 (by omega)))).and (kp_pairs (pairsV_own h2 (by omega)))
  clear hb h1 h2 hst htL haL hend e1 e2 HK4
  go_wp2_with fail
  refine name_calls (p := fun Y => Below W5.heap.size W5 Y ∧ Y.heap[W5.heap.size]? = some (.cells #[.int .i64 st, .slice ta tl.length tc, .int .i64 1] 44 (0, 0))) ⟨(Below.refl _ _).alloc (Nat.le_refl _) _, heap_alloc_new _ _⟩ ?_
  rintro W6 ⟨hb, hbox⟩
  have HK6 : Hid (Kp (fun W => (((((((IntsV W v0 xs ∧ IntsV W v1 vs) ∧ Below w.heap.size w W) ∧ StepsV W sv l) ∧ PairsV W W.heap.size mv ml) ∧ IntsV W (.slice ta tl.length tc) tl) ∧ PairsV W W.heap.size (.slice aa al.length ac) al) ∧ W.heap[W5.heap.size]? = some (.cells #[.int .i64 st, .slice ta tl.length tc, .int .i64 1] 44 (0, 0)))) W6) := (HK5.out.next hb).and (kp_blk hbox)
  clear hb hbox HK5
  refine (ended_true st _ W6 ⟨_, _, _, rfl⟩ HEnd.out).mono ?_
  rintro e W7 ⟨rfl, hb⟩
  have HK7 := HK6.out.next hb
  have HK7 : Hid (Kp _ W7) := HK7
  clear hb HK6
  go_wp2_with fail
  refine (named_any sv l k W7 (by have := HJ.out.2.2.1; omega) HK7.out.now.1.1.1.1.2).mono ?_
  rintro e W8 ⟨rfl, hb⟩
  have HK8 := HK7.out.next hb
  have HK8 : Hid (Kp _ W8) := HK8
  clear hb HK7
  cases hn : namedB l k
  · have ff := framed_facts (f := 1 + f) HJ.out.1 HJ.out.2.1 (by omega) (by omega) k1 (by omega) hn
    have HFF : Hid (runTold l (wo k ml) (1 + f) = tl ∧ runSt l (wo k ml) (1 + f) = st ∧ wo k al = wo k (runMap l (wo k ml) (1 + f)) ∧ vIn al k = vIn ml k ∧ vIn (runMap l (wo k ml) (1 + f)) k = -1) := by
      rw [HR1.out.1, HR1.out.2.1, HR1.out.2.2]
      exact ⟨ff.1.symm, ff.2.1.symm, ff.2.2.1, ff.2.2.2.1, ff.2.2.2.2⟩
    have HF8 : Hid (FA w sv mv (.slice ta tl.length tc) (.slice aa al.length ac) l ml al tl W5.heap.size st W8) := by
      have h := HK8.out.now
      exact ⟨h.1.1.1.1.2, h.1.1.1.2, h.1.1.2, h.1.2, h.2, h.1.1.1.1.1.2⟩
    clear ff HK8
    go_wp2_with fail
    refine (without_any mv ml k W8 (by have := HJ.out.2.2.2; omega) HF8.out.pairs).mono ?_
    rintro e W9 ⟨lv, rfl, hown, hb⟩
    have hwl : (wo k ml).length ≤ 16 := Nat.le_trans (List.length_filter_le _ _) HJ.out.2.2.2
    have HF9 : Hid (FA w sv mv (.slice ta tl.length tc) (.slice aa al.length ac) l ml al tl W5.heap.size st W9) := HF8.out.next hb
    have HL9 : Hid (PairsV W9 W9.heap.size lv (wo k ml)) := pairsV_own hown (by omega)
    clear hb hown HF8
    go_wp2_with fail
    refine (run_ok sv lv l (wo k ml) (1 + f) W9 HF9.out.steps HL9.out).mono ?_
    rintro e Wa ⟨tv2, av2, rfl, h1, h2, hb⟩
    have hm2 := mapB_wo HJ.out.2.1 k
    obtain ⟨e1, e2, _, _, _⟩ := run_facts (l := l) (ml := wo k ml) (f := 1 + f) HJ.out.1 hm2 (by omega) (by omega)
    have hal2 := runMap_len l (wo k ml) (1 + f)
    rw [e1, e2, HFF.out.2.1]
    rw [HFF.out.1] at h1
    obtain ⟨al2, haL⟩ : ∃ al2, al2 = runMap l (wo k ml) (1 + f) := ⟨_, rfl⟩
    rw [← haL] at h2 hal2
    have HFG : Hid (wo k al = wo k al2 ∧ vIn al k = vIn ml k ∧ vIn al2 k = -1) := by rw [haL]; exact HFF.out.2.2
    obtain ⟨ta2, tc2, rfl⟩ := owns_form h1
    obtain ⟨aa2, ac2, rfl⟩ := owns_form h2
    have HFa : Hid (FA w sv mv (.slice ta tl.length tc) (.slice aa al.length ac) l ml al tl W5.heap.size st Wa ∧ IntsV Wa (.slice ta2 tl.length tc2) tl ∧ PairsV Wa Wa.heap.size (.slice aa2 al2.length ac2) al2) := ⟨HF9.out.next hb, intsV_own h1 (by omega), pairsV_own h2 (by omega)⟩
    clear hb h1 h2 haL e1 e2 hm2 HF9 HL9 HFF
    go_wp2_with fail
    refine name_calls (p := fun Y => Below Wa.heap.size Wa Y ∧ Y.heap[Wa.heap.size]? = some (.cells #[.int .i64 st, .slice ta2 tl.length tc2, .int .i64 1] 44 (0, 0))) ⟨(Below.refl _ _).alloc (Nat.le_refl _) _, heap_alloc_new _ _⟩ ?_
    rintro Wb ⟨hb, hbox⟩
    have HFb : Hid (FA w sv mv (.slice ta tl.length tc) (.slice aa al.length ac) l ml al tl W5.heap.size st Wb ∧ FA w sv mv (.slice ta2 tl.length tc2) (.slice aa2 al2.length ac2) l ml al2 tl Wa.heap.size st Wb) := by
      have h := HFa.out.1.next hb
      exact ⟨h, h.steps, h.pairs, HFa.out.2.1.below hb, PairsV.wide (HFa.out.2.2.below hb (Nat.le_refl _)) hb.size, hbox, h.bel⟩
    clear hb hbox HFa
    refine (ended_true st _ Wb ⟨_, _, _, rfl⟩ HEnd.out).mono ?_
    rintro e Wc ⟨rfl, hb⟩
    have HFc : Hid (FA w sv mv (.slice ta tl.length tc) (.slice aa al.length ac) l ml al tl W5.heap.size st Wc ∧ FA w sv mv (.slice ta2 tl.length tc2) (.slice aa2 al2.length ac2) l ml al2 tl Wa.heap.size st Wc) := ⟨HFb.out.1.next hb, HFb.out.2.next hb⟩
    clear hb HFb
    obtain ⟨o0, o1, o2⟩ := HFc.out.1.cells
    obtain ⟨p0, p1, p2⟩ := HFc.out.2.cells
    go_wp2_with fail
    refine (pivotkeep_sameOutcome_any st 1 st 1 _ _ tl tl Wc HFc.out.1.told HFc.out.2.told).mono ?_
    rintro e Wd ⟨rfl, hb⟩
    simp only [decide_true, Bool.and_self]
    have HFd : Hid (FA w sv mv (.slice ta tl.length tc) (.slice aa al.length ac) l ml al tl W5.heap.size st Wd ∧ FA w sv mv (.slice ta2 tl.length tc2) (.slice aa2 al2.length ac2) l ml al2 tl Wa.heap.size st Wd) := ⟨HFc.out.1.next hb, HFc.out.2.next hb⟩
    clear hb HFc o0 o1 o2 p0 p1 p2
    go_wp2_with fail
    refine (without_any _ al k Wd (by omega) HFd.out.1.after).mono ?_
    rintro e We ⟨uv, rfl, hown, hb⟩
    have hwa : (wo k al).length ≤ 16 := Nat.le_trans (List.length_filter_le _ _) hal
    have HFe : Hid (FA w sv mv (.slice ta tl.length tc) (.slice aa al.length ac) l ml al tl W5.heap.size st We ∧ FA w sv mv (.slice ta2 tl.length tc2) (.slice aa2 al2.length ac2) l ml al2 tl Wa.heap.size st We ∧ PairsV We We.heap.size uv (wo k al)) := ⟨HFd.out.1.next hb, HFd.out.2.next hb, pairsV_own hown (by omega)⟩
    clear hb hown HFd
    go_wp2_with fail
    refine (without_any _ al2 k We (by omega) HFe.out.2.1.after).mono ?_
    rintro e Wf ⟨uv2, rfl, hown, hb⟩
    have HFf : Hid (FA w sv mv (.slice ta tl.length tc) (.slice aa al.length ac) l ml al tl W5.heap.size st Wf ∧ FA w sv mv (.slice ta2 tl.length tc2) (.slice aa2 al2.length ac2) l ml al2 tl Wa.heap.size st Wf ∧ PairsV Wf Wf.heap.size uv (wo k al) ∧ PairsV Wf Wf.heap.size uv2 (wo k al)) := ⟨HFe.out.1.next hb, HFe.out.2.1.next hb, PairsV.wide (HFe.out.2.2.below hb (Nat.le_refl _)) hb.size, by rw [HFG.out.1]; exact pairsV_own hown (by rw [← HFG.out.1]; omega)⟩
    clear hb hown HFe
    go_wp2_with fail
    refine (pivotkeep_samePairs_any uv uv2 _ _ (wo k al) (wo k al) Wf HFf.out.2.2.1 HFf.out.2.2.2).mono ?_
    rintro e Wg ⟨rfl, hb⟩
    simp only [decide_true]
    have HFg : Hid (FA w sv mv (.slice ta tl.length tc) (.slice aa al.length ac) l ml al tl W5.heap.size st Wg ∧ FA w sv mv (.slice ta2 tl.length tc2) (.slice aa2 al2.length ac2) l ml al2 tl Wa.heap.size st Wg) := ⟨HFf.out.1.next hb, HFf.out.2.1.next hb⟩
    clear hb HFf
    go_wp2_with fail
    refine (holds_any _ _ al k Wg HFg.out.1.after).mono ?_
    rintro e W' ⟨rfl, h⟩
    obtain rfl := h.symm
    clear h
    rw [HFG.out.2.1]
    obtain ⟨hv, hhv⟩ : ∃ hv, hv = vIn ml k := ⟨_, rfl⟩
    have HHV : Hid (hv = vIn ml k) := hhv
    rw [← hhv]
    clear hhv
    go_wp2_with fail
    refine (holds_any _ _ ml k Wg HFg.out.1.pairs).mono ?_
    rintro e W' ⟨rfl, h⟩
    obtain rfl := h.symm
    clear h
    rw [← HHV.out]
    go_wp2_with fail
    refine (holds_any _ _ al2 k Wg HFg.out.2.after).mono ?_
    rintro e W' ⟨rfl, h⟩
    obtain rfl := h.symm
    clear h
    rw [HFG.out.2.2]
    go_wp2
    go_ret
    exact ⟨rfl, HFg.out.1.bel⟩
  · go_wp2
    go_ret
    exact ⟨rfl, HK8.out.now.1.1.1.1.1.2⟩

end Go.Proofs.Ytlbmcdoldnajoaa

/- The statement 'FramedSaid'. -/
namespace Go.Proofs.Ytlbmcdoldnajoaa
open Go.ChangeShapes Go.WideShapes Go.ChangeAt Go.RowKit

theorem Try.bytesInt : Try.prog.bytesOf 3 = 8 := by kernel_rfl

set_option maxRecDepth 100000 in
theorem framed_lifted (os : Os) (started : os.Started) (H : Type) (enc : TypeId × Value → H) :
    ReturnsInHanded {} Try.checked os 7 .any (Rows.framedSpec.pre6 enc Try.prog Try.f7 Rows.framedRow.domain false) (Rows.framedSpec.post enc Try.prog Try.f7 false true false false) := by
  refine returnsInHanded_of_change_sized (C := Try.checked) Try.own started (by kernel_rfl) Try.func7
    (ChangeSpec.witness6 (enc := enc) (C := Try.checked) false ⟨#[], #[.slice none 0 0, .slice none 0 0, .int .i64 1, .int .i64 1], []⟩ 8 (by kernel_rfl) (by kernel_rfl) (by kernel_rfl) (by kernel_rfl)) ?_
  intro W base args ds gs before hval0 hW hcnd hsz0 _
  have hval : ∀ (j : Nat) t v, Try.f7.params[j]? = some t → args[j]? = some v → Value.okWide Try.prog W .any base t v := hval0
  have hsz : (DataW.weightsEach Try.prog (Try.f7.params.toList ++ Rows.framedSpec.plain.varTypes Try.prog) (ds ++ gs)).all (· ≤ reachBytes) = true := hsz0
  have hW' := hW
  obtain ⟨p, q, hA0, hV, rfl, hfz, hnd⟩ := hW
  have hA : DataW.TrodAll enc Try.prog W 0 (fun _ => true) true Try.f7.params.toList args.toList ds p := hA0
  rw [Try.params7] at hA hval hsz
  obtain ⟨v0, v1, v2, v3, e0, e1, e2, e3, p0, p1, p2, p3, rfl, rfl, rfl, h0, h1, h2, h3⟩ := trodAll_four hA
  obtain ⟨rfl, rfl⟩ := trodVars_none hV
  obtain ⟨a0, len0, cap0, rfl⟩ := okWide_slice Try.underlying37 (hval 0 37 v0 rfl rfl)
  obtain ⟨a1, len1, cap1, rfl⟩ := okWide_slice Try.underlying37 (hval 1 37 v1 rfl rfl)
  obtain ⟨n2, rfl⟩ := okWide_int Try.underlying3 (hval 2 3 v2 rfl rfl)
  obtain ⟨n3, rfl⟩ := okWide_int Try.underlying3 (hval 3 3 v3 rfl rfl)
  have k0 := h0
  have k1 := h1
  have k2 := h2
  have k3 := h3
  have lt0 : ∀ x ∈ p0, x.block < W.heap.size := by obtain ⟨m, hm⟩ := k0; exact DataW.trod_lt m _ _ _ hm
  have lt1 : ∀ x ∈ p1, x.block < W.heap.size := by obtain ⟨m, hm⟩ := k1; exact DataW.trod_lt m _ _ _ hm
  have lt2 : ∀ x ∈ p2, x.block < W.heap.size := by obtain ⟨m, hm⟩ := k2; exact DataW.trod_lt m _ _ _ hm
  have lt3 : ∀ x ∈ p3, x.block < W.heap.size := by obtain ⟨m, hm⟩ := k3; exact DataW.trod_lt m _ _ _ hm
  obtain ⟨xs, hx, hxs, hroom⟩ : ∃ xs : List Int, (∀ x ∈ xs, i64B x) ∧ IntsV W (.slice a0 len0 cap0) xs ∧ ∀ ao n cap, Value.slice a0 len0 cap0 = .slice ao n cap → n ≤ cap := by
    obtain ⟨fuel, hf⟩ := h0
    have hf' : DataW.trod enc Try.prog W 0 (fun _ => true) true fuel 37 [Value.slice a0 len0 cap0] = some (e0, p0) := by simpa [Value.cells] using hf
    obtain ⟨l, g0, g1, g2⟩ := open_ints hf'
    refine ⟨l, g0, g1 ?_, open_room Try.underlying37 hf'⟩
    rcases g2 with rfl | ⟨el, sp, he, hlen⟩
    · simp
    · have hd : e0 = .slice el sp := he
      subst hd
      have := sized_slice hsz (j := 0) (t := 37) (e := 3) rfl rfl Try.underlying37
      rw [Try.bytesInt] at this
      simp only [reachBytes] at this
      omega
  obtain ⟨vs, hv, hvs⟩ : ∃ vs : List Int, (∀ x ∈ vs, i64B x) ∧ IntsV W (.slice a1 len1 cap1) vs := by
    obtain ⟨fuel, hf⟩ := h1
    have hf' : DataW.trod enc Try.prog W 0 (fun _ => true) true fuel 37 [Value.slice a1 len1 cap1] = some (e1, p1) := by simpa [Value.cells] using hf
    obtain ⟨l, g0, g1, g2⟩ := open_ints hf'
    refine ⟨l, g0, g1 ?_⟩
    rcases g2 with rfl | ⟨el, sp, he, hlen⟩
    · simp
    · have hd : e1 = .slice el sp := he
      subst hd
      have := sized_slice hsz (j := 1) (t := 37) (e := 3) rfl rfl Try.underlying37
      rw [Try.bytesInt] at this
      simp only [reachBytes] at this
      omega
  clear hA0 hval0 hsz0
  refine (framed_walk _ _ xs vs n2 n3 W hx hv hxs hvs hroom (open_int h2) (open_int h3)).mono fun e W' ⟨he, bel⟩ => ?_
  subst he
  exact ⟨_, rfl, _, _, _, [], _, [], hW', trodAll_mk1 (shut_bool Try.underlying4 _), trodAll_mk4 (Below.trod Try.laidOut (by kernel_rfl) (of_decide_eq_true (by kernel_rfl)) k0 bel lt0) (Below.trod Try.laidOut (by kernel_rfl) (of_decide_eq_true (by kernel_rfl)) k1 bel lt1) (Below.trod Try.laidOut (by kernel_rfl) (of_decide_eq_true (by kernel_rfl)) k2 bel lt2) (Below.trod Try.laidOut (by kernel_rfl) (of_decide_eq_true (by kernel_rfl)) k3 bel lt3), rfl, bel.frame _, fun h => by cases h⟩

theorem framed_holds : Rows.FramedSaid :=
  OpenClaim.holds_of_wide 7 Try.f7 rfl rfl rfl rfl rfl rfl rfl ⟨rfl, rfl, rfl, rfl, rfl⟩ rfl rfl rfl rfl rfl (by kernel_rfl) Try.func7 (by kernel_rfl)
    (of_decide_eq_true (by kernel_rfl)) (by unfold Func.isWrapper; rw [if_neg (of_decide_eq_false (by kernel_rfl))]; exact ⟨rfl, rfl⟩)
    (fun os started H enc _ => framed_lifted os started H enc)

end Go.Proofs.Ytlbmcdoldnajoaa
