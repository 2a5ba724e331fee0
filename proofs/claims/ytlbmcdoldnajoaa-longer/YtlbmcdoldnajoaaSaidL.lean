/- LoW, SaidL -/
import Derived.Test.YtlbmcdoldnajoaaFrA
import Derived.Test.YtlbmcdoldnajoaaSaidKit

/- Longer: the walk. -/
namespace Go.Proofs.Ytlbmcdoldnajoaa
open Go.RowKit

set_option maxRecDepth 100000 in
set_option maxHeartbeats 4000000 in
theorem longer_walk (v0 v1 : Value) (xs vs : List Int) (less more : Int) (w : World) (hx : ∀ x ∈ xs, i64B x) (hv : ∀ x ∈ vs, i64B x) (hxs : IntsV w v0 xs) (hvs : IntsV w v1 vs) (hcap : ∀ ao n cap, v0 = .slice ao n cap → n ≤ cap) (hwh : i64B less) (hfu : i64B more) :
    Calls Try.prog 8 #[v0, v1, .int .i64 less, .int .i64 more] w fun e w' => e = .returned (.bool true) ∧ Below w.heap.size w w' := by
  have HI : Hid ((∀ x ∈ xs, i64B x) ∧ (∀ x ∈ vs, i64B x) ∧ (∀ ao n cap, v0 = .slice ao n cap → n ≤ cap) ∧ i64B less ∧ i64B more) := ⟨hx, hv, hcap, hwh, hfu⟩
  have K0 : Kp (fun W => (IntsV W v0 xs ∧ IntsV W v1 vs) ∧ Below w.heap.size w W) w := ((kp_ints hxs).and (kp_ints hvs)).and (kp_below (Below.refl _ _))
  have HK0 : Hid (Kp (fun W => (IntsV W v0 xs ∧ IntsV W v1 vs) ∧ Below w.heap.size w W) w) := K0
  clear hx hv hxs hvs hcap hwh hfu K0
  obtain ⟨pf, hf⟩ : ∃ pf, pf = pickI less 200 := ⟨_, rfl⟩
  have f1 := pickI_lo less (n := 200) (by omega)
  have f2 := pickI_hi less (n := 200) (by omega)
  rw [← hf] at f1 f2
  obtain ⟨pg, hg⟩ : ∃ pg, pg = pickI more (201 - (1 + pf)) := ⟨_, rfl⟩
  have g1 := pickI_lo more (n := 201 - (1 + pf)) (by omega)
  have g2 := pickI_hi more (n := 201 - (1 + pf)) (by omega)
  rw [← hg] at g1 g2
  have HKF : Hid (pf = pickI less 200 ∧ pg = pickI more (201 - (1 + pf))) := ⟨hf, hg⟩
  clear hf hg
  obtain ⟨l, hl⟩ : ∃ l, l = mkL xs 0 16 := ⟨_, rfl⟩
  obtain ⟨ml, hml⟩ : ∃ ml, ml = mapL vs := ⟨_, rfl⟩
  have HJ : Hid (jobB l = true ∧ mapB ml = true ∧ l.length ≤ 32 ∧ ml.length ≤ 16) := by
    rw [hl, hml]
    exact ⟨mkL_job xs, mapL_good vs, by rw [mkL_len]; exact Nat.min_le_left _ _, mapL_len vs⟩
  have HL : Hid (l = mkL xs 0 16 ∧ ml = mapL vs) := ⟨hl, hml⟩
  clear hl hml
  have wf : IntKind.i64.wrap (1 + pf) = 1 + pf := by rw [IntKind.wrap_i64]; omega
  have wg : IntKind.i64.wrap (201 - (1 + pf)) = 201 - (1 + pf) := by rw [IntKind.wrap_i64]; omega
  have wh : IntKind.i64.wrap (1 + pf + pg) = 1 + pf + pg := by rw [IntKind.wrap_i64]; omega
  go_enter Try.func8, Try.ntmps8
  go_wp2_with fail
  refine (plain_any run_ok w).mono ?_
  rintro e W1 ⟨rfl, hb⟩
  have HK1 : Hid (Kp (fun W => (IntsV W v0 xs ∧ IntsV W v1 vs) ∧ Below w.heap.size w W) W1) := HK0.out.next hb
  clear hb HK0
  go_wp2_with fail
  refine (every_any W1).mono ?_
  rintro e W2 ⟨rfl, hb⟩
  have HK2 : Hid (Kp (fun W => (IntsV W v0 xs ∧ IntsV W v1 vs) ∧ Below w.heap.size w W) W2) := HK1.out.next hb
  clear hb HK1
  go_wp2_with fail
  refine (made_any v0 xs 0 16 W2 HI.out.1 HK2.out.now.1.1 HI.out.2.2.1 (by omega) (by omega) (by omega) (by omega)).mono ?_
  rintro e W3 ⟨sv, rfl, hown, hb⟩
  rw [← HL.out.1] at hown
  have HK3 : Hid (Kp (fun W => ((IntsV W v0 xs ∧ IntsV W v1 vs) ∧ Below w.heap.size w W) ∧ StepsV W sv l) W3) := (HK2.out.next hb).and (kp_steps (stepsV_own hown))
  clear hb hown HK2
  go_wp2_with fail
  refine (pairs_any v1 vs W3 HI.out.2.1 HK3.out.now.1.1.2).mono ?_
  rintro e W4 ⟨mv, rfl, hown, hb⟩
  rw [← HL.out.2] at hown
  have HK4 : Hid (Kp (fun W => (((IntsV W v0 xs ∧ IntsV W v1 vs) ∧ Below w.heap.size w W) ∧ StepsV W sv l) ∧ PairsV W W.heap.size mv ml) W4) := (HK3.out.next hb).and (kp_pairs (pairsV_own hown (by have := HJ.out.2.2.2; omega)))
  clear hb hown HK3
  go_wp2_with fail
  refine (pick_any less 200 _ HI.out.2.2.2.1 (by omega) (by omega)).mono ?_
  rintro e w' ⟨rfl, h⟩
  obtain rfl := h.symm
  clear h
  rw [← HKF.out.1]
  go_wp2_with fail
  refine (pick_any more (201 - (1 + pf)) _ HI.out.2.2.2.2 (by omega) (by omega)).mono ?_
  rintro e w' ⟨rfl, h⟩
  obtain rfl := h.symm
  clear h
  rw [← HKF.out.2]
  go_wp2_with fail
  refine (run_ok sv mv l ml (1 + pf) W4 HK4.out.now.1.2 HK4.out.now.2).mono ?_
  rintro e W5 ⟨tv, av, rfl, h1, h2, hb⟩
  have hend := run_endB (l := l) (ml := ml) (f := 1 + pf) HJ.out.1 HJ.out.2.1 (by omega) (by omega)
  have hend2 := run_endB (l := l) (ml := ml) (f := 1 + pf + pg) HJ.out.1 HJ.out.2.1 (by omega) (by omega)
  have hlf := longer_facts (l := l) (ml := ml) (f := 1 + pf) (g := 1 + pf + pg) HJ.out.1 HJ.out.2.1 (by omega) (by omega) (by omega)
  obtain ⟨e1, e2, _, _, _⟩ := run_facts (l := l) (ml := ml) (f := 1 + pf) HJ.out.1 HJ.out.2.1 (by omega) (by omega)
  rw [e1, e2]
  have htl := runTold_len l ml (1 + pf)
  have hal := runMap_len l ml (1 + pf)
  obtain ⟨st, hst⟩ : ∃ st, st = runSt l ml (1 + pf) := ⟨_, rfl⟩
  obtain ⟨tl, htL⟩ : ∃ tl, tl = runTold l ml (1 + pf) := ⟨_, rfl⟩
  obtain ⟨al, haL⟩ : ∃ al, al = runMap l ml (1 + pf) := ⟨_, rfl⟩
  obtain ⟨st2, hst2⟩ : ∃ st2, st2 = runSt l ml (1 + pf + pg) := ⟨_, rfl⟩
  obtain ⟨tl2, htL2⟩ : ∃ tl2, tl2 = runTold l ml (1 + pf + pg) := ⟨_, rfl⟩
  obtain ⟨al2, haL2⟩ : ∃ al2, al2 = runMap l ml (1 + pf + pg) := ⟨_, rfl⟩
  rw [← hst, ← htL, ← haL, ← hst2, ← htL2, ← haL2] at hlf
  rw [← hst] at hend ⊢
  rw [← hst2] at hend2
  rw [← htL] at h1 htl
  rw [← haL] at h2 hal
  have HR2 : Hid (st2 = runSt l ml (1 + pf + pg) ∧ tl2 = runTold l ml (1 + pf + pg) ∧ al2 = runMap l ml (1 + pf + pg)) := ⟨hst2, htL2, haL2⟩
  have HLF : Hid (tl <+: tl2 ∧ (st ≠ 3 → al = ml) ∧ (st ≠ 5 → tl = tl2 ∧ st = st2 ∧ al = al2)) := hlf
  have HEnd : Hid (EndB st = true ∧ EndB st2 = true) := ⟨hend, hend2⟩
  obtain ⟨ta, tc, rfl⟩ := owns_form h1
  obtain ⟨aa, ac, rfl⟩ := owns_form h2
  have HK5 : Hid (Kp (fun W => ((((((IntsV W v0 xs ∧ IntsV W v1 vs) ∧ Below w.heap.size w W) ∧ StepsV W sv l) ∧ PairsV W W.heap.size mv ml) ∧ IntsV W (.slice ta tl.length tc) tl) ∧ PairsV W W.heap.size (.slice aa al.length ac) al)) W5) := ((HK4.out.next hb).and (kp_ints (intsV_own h1 (by omega)))).and (kp_pairs (pairsV_own h2 (by omega)))
  clear hb h1 h2 hst htL haL hst2 htL2 haL2 hend hend2 hlf e1 e2 HK4
  go_wp2_with fail
  refine name_calls (p := fun Y => Below W5.heap.size W5 Y ∧ Y.heap[W5.heap.size]? = some (.cells #[.int .i64 st, .slice ta tl.length tc, .int .i64 1] 44 (0, 0))) ⟨(Below.refl _ _).alloc (Nat.le_refl _) _, heap_alloc_new _ _⟩ ?_
  rintro W6 ⟨hb, hbox⟩
  have HF6 : Hid (FA w sv mv (.slice ta tl.length tc) (.slice aa al.length ac) l ml al tl W5.heap.size st W6) := by
    have h := (HK5.out.next hb).now
    exact ⟨h.1.1.1.2, h.1.1.2, h.1.2, h.2, hbox, h.1.1.1.1.2⟩
  clear hb hbox HK5
  refine (run_ok sv mv l ml (1 + pf + pg) W6 HF6.out.steps HF6.out.pairs).mono ?_
  rintro e W7 ⟨tv2, av2, rfl, h1, h2, hb⟩
  obtain ⟨e1, e2, _, _, _⟩ := run_facts (l := l) (ml := ml) (f := 1 + pf + pg) HJ.out.1 HJ.out.2.1 (by omega) (by omega)
  have htl2 := runTold_len l ml (1 + pf + pg)
  have hal2 := runMap_len l ml (1 + pf + pg)
  rw [e1, e2, ← HR2.out.1]
  rw [← HR2.out.2.1] at h1 htl2
  rw [← HR2.out.2.2] at h2 hal2
  have hroom : ∃ ta2 tc2, tv2 = .slice ta2 tl2.length tc2 ∧ tl2.length ≤ tc2 ∧ ((ta2 = none ∧ tc2 = 0 ∧ tl2.length = 0) ∨ ∃ g, ta2 = some ⟨g, 0, none⟩) := by
    rcases h1.2 with ⟨rfl, h0⟩ | ⟨g, cap, cur, rfl, _, _, hle, _⟩
    · exact ⟨none, 0, by rw [h0], by omega, Or.inl ⟨rfl, rfl, h0⟩⟩
    · exact ⟨_, cap, rfl, hle, Or.inr ⟨g, rfl⟩⟩
  obtain ⟨ta2, tc2, rfl, hle2, hshape⟩ := hroom
  have HSh : Hid ((ta2 = none ∧ tc2 = 0 ∧ tl2.length = 0) ∨ ∃ g, ta2 = some ⟨g, 0, none⟩) := hshape
  obtain ⟨aa2, ac2, rfl⟩ := owns_form h2
  have HF7 : Hid (FA w sv mv (.slice ta tl.length tc) (.slice aa al.length ac) l ml al tl W5.heap.size st W7 ∧ IntsV W7 (.slice ta2 tl2.length tc2) tl2 ∧ PairsV W7 W7.heap.size (.slice aa2 al2.length ac2) al2) := ⟨HF6.out.next hb, intsV_own h1 (by omega), pairsV_own h2 (by omega)⟩
  clear hb h1 h2 e1 e2 hshape HF6
  obtain ⟨o0, o1, o2⟩ := HF7.out.1.cells
  have hlt5 := blk_lt HF7.out.1.box
  go_wp2_with fail
  refine name_calls (p := fun Y => Below W7.heap.size W7 Y ∧ Y.heap[W7.heap.size]? = some (.cells #[.int .i64 st2, .slice ta2 tl2.length tc2, .int .i64 1] 44 (0, 0))) ⟨(Below.refl _ _).alloc (Nat.le_refl _) _, heap_alloc_new _ _⟩ ?_
  rintro W8 ⟨hb, hbox⟩
  have HF8 : Hid (FA w sv mv (.slice ta tl.length tc) (.slice aa al.length ac) l ml al tl W5.heap.size st W8 ∧ FA w sv mv (.slice ta2 tl2.length tc2) (.slice aa2 al2.length ac2) l ml al2 tl2 W7.heap.size st2 W8) := by
    have h := HF7.out.1.next hb
    exact ⟨h, h.steps, h.pairs, HF7.out.2.1.below hb, PairsV.wide (HF7.out.2.2.below hb (Nat.le_refl _)) hb.size, hbox, h.bel⟩
  clear hb hbox HF7 o0 o1 o2 hlt5
  refine (ended_true st _ W8 ⟨_, _, _, rfl⟩ HEnd.out.1).mono ?_
  rintro e W9 ⟨rfl, hb⟩
  have HF9 : Hid (FA w sv mv (.slice ta tl.length tc) (.slice aa al.length ac) l ml al tl W5.heap.size st W9 ∧ FA w sv mv (.slice ta2 tl2.length tc2) (.slice aa2 al2.length ac2) l ml al2 tl2 W7.heap.size st2 W9) := ⟨HF8.out.1.next hb, HF8.out.2.next hb⟩
  clear hb HF8
  obtain ⟨o0, o1, o2⟩ := HF9.out.1.cells
  obtain ⟨p0, p1, p2⟩ := HF9.out.2.cells
  go_wp2_with fail
  refine (ended_true st2 _ W9 ⟨_, _, _, rfl⟩ HEnd.out.2).mono ?_
  rintro e Wa ⟨rfl, hb⟩
  have HFa : Hid (FA w sv mv (.slice ta tl.length tc) (.slice aa al.length ac) l ml al tl W5.heap.size st Wa ∧ FA w sv mv (.slice ta2 tl2.length tc2) (.slice aa2 al2.length ac2) l ml al2 tl2 W7.heap.size st2 Wa) := ⟨HF9.out.1.next hb, HF9.out.2.next hb⟩
  clear hb HF9 o0 o1 o2 p0 p1 p2
  obtain ⟨o0, o1, o2⟩ := HFa.out.1.cells
  obtain ⟨p0, p1, p2⟩ := HFa.out.2.cells
  have hpre := HLF.out.1.length_le
  have hle : ¬ ((tl2.length : Int) < (tl.length : Int)) := by omega
  by_cases h5 : st = 5
  · subst h5
    have hal3 := HLF.out.2.1 (by decide)
    subst hal3
    go_wp2_with fail
    refine (pivotkeep_samePairs_any _ _ _ _ al al Wa HFa.out.1.after HFa.out.1.pairs).mono ?_
    rintro e Wb ⟨rfl, hb⟩
    simp only [decide_true]
    have HFb := (⟨HFa.out.1.next hb, HFa.out.2.next hb⟩ : _ ∧ _)
    have HFb : Hid (_ ∧ _) := HFb
    clear hb HFa o0 o1 o2 p0 p1 p2
    obtain ⟨o0, o1, o2⟩ := HFb.out.1.cells
    obtain ⟨p0, p1, p2⟩ := HFb.out.2.cells
    have s1 : (0 : Int) ≤ (tl.length : Int) := by omega
    have s2 : (tl.length : Int) ≤ (tc2 : Int) := by omega
    rcases HSh.out with ⟨rfl, rfl, hz⟩ | ⟨g, rfl⟩
    · have hz2 : tl.length = 0 := by omega
      have e2 : tl2 = [] := List.eq_nil_of_length_eq_zero hz
      have e1 : tl = [] := List.eq_nil_of_length_eq_zero hz2
      subst e1
      subst e2
      have HFd : Hid (FA w sv mv (.slice ta ([] : List Int).length tc) (.slice aa al.length ac) l al al [] W5.heap.size 5 Wb.drew) := HFb.out.1.next ((Below.refl _ _).drew)
      clear HFb HSh HLF
      go_wp2
      go_region_with (go_at_call 21; refine (pivotkeep_sameInts_any _ _ [] [] _ HFd.out.told (intsV_nil _)).mono ?_; rintro e Wc ⟨rfl, hb⟩; have HE : Hid (Below w.heap.size w Wc) := (HFd.out.next hb).bel; clear hb)
      all_goals
        go_wp2
        go_ret
        exact ⟨rfl, HE.out⟩
    · have HP : Hid (IntsV Wb (.slice (some ⟨g, 0, none⟩) tl.length tc2) tl) := by
        obtain ⟨ao, cap, hv, hm, h⟩ := HFb.out.2.told
        injection hv with hv1 _ _
        refine ⟨_, tc2, rfl, by omega, ?_⟩
        rcases h with h | ⟨b, off, h1, h2, h3⟩
        · left
          rw [h] at hpre
          exact List.eq_nil_of_length_eq_zero (by simpa using hpre)
        · right
          rw [h1] at hv1
          injection hv1 with hv1
          injection hv1 with hb ho
          subst hb
          subst ho
          refine ⟨g, 0, rfl, h2, fun i hi => ?_⟩
          rw [h3 i (by omega)]
          obtain ⟨t, ht⟩ := HLF.out.1
          rw [← ht]
          simp only [List.getD, List.getElem?_append_left hi]
      have HFd : Hid (FA w sv mv (.slice ta tl.length tc) (.slice aa al.length ac) l al al tl W5.heap.size 5 Wb.drew) := HFb.out.1.next ((Below.refl _ _).drew)
      have HPd : Hid (IntsV Wb.drew (.slice (some ⟨g, 0, none⟩) tl.length tc2) tl) := HP.out.below ((Below.refl _ _).drew)
      clear HFb HP HSh HLF
      go_wp2
      go_region_with (go_at_call 21; refine (pivotkeep_sameInts_any _ _ tl tl _ HFd.out.told HPd.out).mono ?_; rintro e Wc ⟨rfl, hb⟩; have HE : Hid (Below w.heap.size w Wc) := (HFd.out.next hb).bel; clear hb)
      all_goals
        go_wp2
        go_ret
        exact ⟨rfl, HE.out⟩
  · obtain ⟨q1, q2, q3⟩ := HLF.out.2.2 h5
    subst q1
    subst q2
    subst q3
    by_cases h3 : st = 3
    · subst h3
      go_wp2_with fail
      refine (pivotkeep_sameOutcome_any 3 1 3 1 _ _ tl tl Wa HFa.out.1.told HFa.out.2.told).mono ?_
      rintro e Wb ⟨rfl, hb⟩
      simp only [decide_true, Bool.and_self]
      have HFb := (⟨HFa.out.1.next hb, HFa.out.2.next hb⟩ : _ ∧ _)
      have HFb : Hid (_ ∧ _) := HFb
      clear hb HFa o0 o1 o2 p0 p1 p2
      go_wp2_with fail
      refine (pivotkeep_samePairs_any _ _ _ _ al al Wb HFb.out.1.after HFb.out.2.after).mono ?_
      rintro e Wc ⟨rfl, hb⟩
      simp only [decide_true]
      have HE : Hid (Below w.heap.size w Wc) := (HFb.out.1.next hb).bel
      clear hb HFb
      go_wp2
      go_ret
      exact ⟨rfl, HE.out⟩
    · have hal3 := HLF.out.2.1 h3
      subst hal3
      go_wp2_with fail
      refine (pivotkeep_samePairs_any _ _ _ _ al al Wa HFa.out.1.after HFa.out.1.pairs).mono ?_
      rintro e Wb ⟨rfl, hb⟩
      simp only [decide_true]
      have HFb := (⟨HFa.out.1.next hb, HFa.out.2.next hb⟩ : _ ∧ _)
      have HFb : Hid (_ ∧ _) := HFb
      clear hb HFa o0 o1 o2 p0 p1 p2
      obtain ⟨o0, o1, o2⟩ := HFb.out.1.cells
      obtain ⟨p0, p1, p2⟩ := HFb.out.2.cells
      go_wp2_with fail
      refine (pivotkeep_sameOutcome_any st 1 st 1 _ _ tl tl Wb HFb.out.1.told HFb.out.2.told).mono ?_
      rintro e Wc ⟨rfl, hb⟩
      simp only [decide_true, Bool.and_self]
      have HFc := (⟨HFb.out.1.next hb, HFb.out.2.next hb⟩ : _ ∧ _)
      have HFc : Hid (_ ∧ _) := HFc
      clear hb HFb o0 o1 o2 p0 p1 p2
      go_wp2_with fail
      refine (pivotkeep_samePairs_any _ _ _ _ al al Wc HFc.out.1.after HFc.out.2.after).mono ?_
      rintro e Wd ⟨rfl, hb⟩
      simp only [decide_true]
      have HE : Hid (Below w.heap.size w Wd) := (HFc.out.1.next hb).bel
      clear hb HFc
      go_wp2
      go_ret
      exact ⟨rfl, HE.out⟩

end Go.Proofs.Ytlbmcdoldnajoaa

/- The statement 'LongerSaid'. -/
namespace Go.Proofs.Ytlbmcdoldnajoaa
open Go.ChangeShapes Go.WideShapes Go.ChangeAt Go.RowKit

theorem Try.bytesInt : Try.prog.bytesOf 3 = 8 := by kernel_rfl

set_option maxRecDepth 100000 in
theorem longer_lifted (os : Os) (started : os.Started) (H : Type) (enc : TypeId × Value → H) :
    ReturnsInHanded {} Try.checked os 8 .any (Rows.longerSpec.pre6 enc Try.prog Try.f8 Rows.longerRow.domain false) (Rows.longerSpec.post enc Try.prog Try.f8 false true false false) := by
  refine returnsInHanded_of_change_sized (C := Try.checked) Try.own started (by kernel_rfl) Try.func8
    (ChangeSpec.witness6 (enc := enc) (C := Try.checked) false ⟨#[], #[.slice none 0 0, .slice none 0 0, .int .i64 1, .int .i64 1], []⟩ 8 (by kernel_rfl) (by kernel_rfl) (by kernel_rfl) (by kernel_rfl)) ?_
  intro W base args ds gs before hval0 hW hcnd hsz0 _
  have hval : ∀ (j : Nat) t v, Try.f8.params[j]? = some t → args[j]? = some v → Value.okWide Try.prog W .any base t v := hval0
  have hsz : (DataW.weightsEach Try.prog (Try.f8.params.toList ++ Rows.longerSpec.plain.varTypes Try.prog) (ds ++ gs)).all (· ≤ reachBytes) = true := hsz0
  have hW' := hW
  obtain ⟨p, q, hA0, hV, rfl, hfz, hnd⟩ := hW
  have hA : DataW.TrodAll enc Try.prog W 0 (fun _ => true) true Try.f8.params.toList args.toList ds p := hA0
  rw [Try.params8] at hA hval hsz
  obtain ⟨v0, v1, v2, v3, e0, e1, e2, e3, p0, p1, p2, p3, rfl, rfl, rfl, h0, h1, h2, h3⟩ := trodAll_four hA
  obtain ⟨rfl, rfl⟩ := trodVars_none hV
  obtain ⟨a0, len0, cap0, rfl⟩ := okWide_slice Try.underlying37 (hval 0 37 v0 rfl rfl)
  obtain ⟨a1, len1, cap1, rfl⟩ := okWide_slice Try.underlying37 (hval 1 37 v1 rfl rfl)
  obtain ⟨n2, rfl⟩ := okWide_int Try.underlying3 (hval 2 3 v2 rfl rfl)
  obtain ⟨n3, rfl⟩ := okWide_int Try.underlying3 (hval 3 3 v3 rfl rfl)
  have k0 := h0
  have k1 := h1
  have k2 := h2
  have k3 := h3
  have lt0 : ∀ x ∈ p0, x.block < W.heap.size := by obtain ⟨m, hm⟩ := k0; exact DataW.trod_lt m _ _ _ hm
  have lt1 : ∀ x ∈ p1, x.block < W.heap.size := by obtain ⟨m, hm⟩ := k1; exact DataW.trod_lt m _ _ _ hm
  have lt2 : ∀ x ∈ p2, x.block < W.heap.size := by obtain ⟨m, hm⟩ := k2; exact DataW.trod_lt m _ _ _ hm
  have lt3 : ∀ x ∈ p3, x.block < W.heap.size := by obtain ⟨m, hm⟩ := k3; exact DataW.trod_lt m _ _ _ hm
  obtain ⟨xs, hx, hxs, hroom⟩ : ∃ xs : List Int, (∀ x ∈ xs, i64B x) ∧ IntsV W (.slice a0 len0 cap0) xs ∧ ∀ ao n cap, Value.slice a0 len0 cap0 = .slice ao n cap → n ≤ cap := by
    obtain ⟨fuel, hf⟩ := h0
    have hf' : DataW.trod enc Try.prog W 0 (fun _ => true) true fuel 37 [Value.slice a0 len0 cap0] = some (e0, p0) := by simpa [Value.cells] using hf
    obtain ⟨l, g0, g1, g2⟩ := open_ints hf'
    refine ⟨l, g0, g1 ?_, open_room Try.underlying37 hf'⟩
    rcases g2 with rfl | ⟨el, sp, he, hlen⟩
    · simp
    · have hd : e0 = .slice el sp := he
      subst hd
      have := sized_slice hsz (j := 0) (t := 37) (e := 3) rfl rfl Try.underlying37
      rw [Try.bytesInt] at this
      simp only [reachBytes] at this
      omega
  obtain ⟨vs, hv, hvs⟩ : ∃ vs : List Int, (∀ x ∈ vs, i64B x) ∧ IntsV W (.slice a1 len1 cap1) vs := by
    obtain ⟨fuel, hf⟩ := h1
    have hf' : DataW.trod enc Try.prog W 0 (fun _ => true) true fuel 37 [Value.slice a1 len1 cap1] = some (e1, p1) := by simpa [Value.cells] using hf
    obtain ⟨l, g0, g1, g2⟩ := open_ints hf'
    refine ⟨l, g0, g1 ?_⟩
    rcases g2 with rfl | ⟨el, sp, he, hlen⟩
    · simp
    · have hd : e1 = .slice el sp := he
      subst hd
      have := sized_slice hsz (j := 1) (t := 37) (e := 3) rfl rfl Try.underlying37
      rw [Try.bytesInt] at this
      simp only [reachBytes] at this
      omega
  clear hA0 hval0 hsz0
  refine (longer_walk _ _ xs vs n2 n3 W hx hv hxs hvs hroom (open_int h2) (open_int h3)).mono fun e W' ⟨he, bel⟩ => ?_
  subst he
  exact ⟨_, rfl, _, _, _, [], _, [], hW', trodAll_mk1 (shut_bool Try.underlying4 _), trodAll_mk4 (Below.trod Try.laidOut (by kernel_rfl) (of_decide_eq_true (by kernel_rfl)) k0 bel lt0) (Below.trod Try.laidOut (by kernel_rfl) (of_decide_eq_true (by kernel_rfl)) k1 bel lt1) (Below.trod Try.laidOut (by kernel_rfl) (of_decide_eq_true (by kernel_rfl)) k2 bel lt2) (Below.trod Try.laidOut (by kernel_rfl) (of_decide_eq_true (by kernel_rfl)) k3 bel lt3), rfl, bel.frame _, fun h => by cases h⟩

theorem longer_holds : Rows.LongerSaid :=
  OpenClaim.holds_of_wide 8 Try.f8 rfl rfl rfl rfl rfl rfl rfl ⟨rfl, rfl, rfl, rfl, rfl⟩ rfl rfl rfl rfl rfl (by kernel_rfl) Try.func8 (by kernel_rfl)
    (of_decide_eq_true (by kernel_rfl)) (by unfold Func.isWrapper; rw [if_neg (of_decide_eq_false (by kernel_rfl))]; exact ⟨rfl, rfl⟩)
    (fun os started H enc _ => longer_lifted os started H enc)

end Go.Proofs.Ytlbmcdoldnajoaa
