/- The law's 'asked'. -/
import Derived.Test.YtlbmcdoldnajoaaLawF
namespace Go.Proofs.Ytlbmcdoldnajoaa
open Go.RowKit

/-- how many polls the first j desks are asked -/
def pollsN (ds : List DP) : Nat → Nat
  | 0 => 0
  | j + 1 => pollsN ds j + ((ds.getD j dp0).d.jobs.length + 2)
theorem pollsN_mono (ds : List DP) {a b : Nat} (h : a ≤ b) : pollsN ds a ≤ pollsN ds b := by
  induction b with
  | zero => rw [Nat.le_zero.1 h]; exact Nat.le_refl _
  | succ b ih =>
    by_cases e : a = b + 1
    · rw [e]; exact Nat.le_refl _
    · have := ih (by omega)
      have e : pollsN ds (b + 1) = pollsN ds b + ((ds.getD b dp0).d.jobs.length + 2) := rfl
      omega

/-- what is known at each round of 'asked' -/
def AskRel (K : DeskKit) (Inv : DeskM → Prop) (B : Nat) (W : World) (pb : Nat) (dv : Value) (one : Bool) (vs ps : List Value) (ds : List DP) (V P : Nat) (wr : World) : Prop :=
  ∃ own' iv' pv' vs' ps', LA K Inv B own' wr pb dv one iv' pv' vs' ps' ds ∧ vs'.length = vs.length + V ∧ ps'.length = ps.length + P ∧ Below B W wr

/-- what 'asked' leaves -/
def AskedL (K : DeskKit) (Inv : DeskM → Prop) (B : Nat) (W : World) (pb : Nat) (dv : Value) (one : Bool) (ds : List DP) (e : Ending) (W' : World) : Prop :=
  e = .returned (.bool true) ∧ ∃ own' iv' pv' vs' ps', LA K Inv B own' W' pb dv one iv' pv' vs' ps' ds ∧ Below B W W'

set_option maxRecDepth 100000 in
set_option maxHeartbeats 1000000 in
theorem asked_any (K : DeskKit) (Inv : DeskM → Prop) (B : Nat) (own : Nat → Nat) (W : World) (pb : Nat) (dv : Value) (one : Bool) (iv pv : Value) (vs ps : List Value) (ds : List DP)
    (h : LA K Inv B own W pb dv one iv pv vs ps ds) (hT : ∀ d, Inv d → d.jobs.length ≤ 1000000000 ∧ d.goods.length ≤ 1000000000 ∧ ∀ k, k < d.jobs.length → (d.jobs.getD k jobM0).told.length ≤ 200)
    (hv : vs.length + 4 * pollsN ds ds.length ≤ 1000000000000) (hp : ps.length + 4 * ds.length ≤ 1000000000000) :
    Calls Try.prog 18 #[.pointer (some ⟨pb, 0, none⟩)] W fun e W' => AskedL K Inv B W pb dv one ds e W' := by
  have H0 : Hid (AskRel K Inv B W pb dv one vs ps ds (4 * pollsN ds 0) (4 * 0) W) := ⟨own, iv, pv, vs, ps, h, rfl, rfl, Below.refl _ _⟩
  have HT : Hid (∀ d, Inv d → d.jobs.length ≤ 1000000000 ∧ d.goods.length ≤ 1000000000 ∧ ∀ k, k < d.jobs.length → (d.jobs.getD k jobM0).told.length ≤ 200) := hT
  have HV : Hid (vs.length + 4 * pollsN ds ds.length ≤ 1000000000000 ∧ ps.length + 4 * ds.length ≤ 1000000000000) := ⟨hv, hp⟩
  obtain ⟨da, dc, rfl⟩ := owns_form h.row
  obtain ⟨N, hN⟩ : ∃ N, N = ds.length := ⟨_, rfl⟩
  have HN : Hid (ds.length = N) := hN.symm
  have hNl : N ≤ 1000000000000 := by omega
  have HD : Hid (Value.slice da ds.length dc = Value.slice da N dc) := by rw [hN]; rfl
  rw [HD.out] at H0 ⊢
  clear h hT hv hp hN
  go_enter Try.func18, Try.ntmps18
  go_wp2
  go_loopw [3] (fun i wr => ∃ j : Nat, j ≤ N ∧ i = .int .i64 j ∧ AskRel K Inv B W pb (.slice da N dc) one vs ps ds (4 * pollsN ds j) (4 * j) wr) (fun i _ => N - (intOf i).toNat)
  case atStart => exact ⟨0, Nat.zero_le _, rfl, H0.out⟩
  case round =>
    obtain ⟨j, hj, rfl, hA⟩ := hrel
    clear H0
    obtain ⟨own1, iv1, pv1, vs1, ps1, hL, hvl, hpl, hbel⟩ := hA
    have HA : Hid (LA K Inv B own1 wr pb (.slice da N dc) one iv1 pv1 vs1 ps1 ds ∧ vs1.length = vs.length + 4 * pollsN ds j ∧ ps1.length = ps.length + 4 * j ∧ Below B W wr) := ⟨hL, hvl, hpl, hbel⟩
    have c0 : wr.cell? ⟨pb, 0, none⟩ = some (.slice da N dc) := by rw [blk_cell hL.lw.blk]; rfl
    have hpb := blk_lt hL.lw.blk
    by_cases hlt : j < N
    · have hjl : j < ds.length := by rw [HN.out]; exact hlt
      obtain ⟨g, cap, hgv, hgl, hcell⟩ := owns_pos hL.row (by omega)
      injection hgv with h1 h2 h3
      subst h1 h3
      have cj : wr.cell? ⟨g, j, none⟩ = some (.pointer (some ⟨(ds.getD j dp0).p, 0, none⟩)) := by
        rw [hcell j (by omega)]; simp [List.getD, hjl, ptrV]
      have m1 : (j : Int) < (N : Int) := by omega
      have HM : Hid ((ds.getD j dp0).d.goods.length ≤ 1000000000000 ∧ ps1.length ≤ 1000000000000) := ⟨by have := (HT.out _ (hL.inv j hjl)).2.1; omega, by have := HV.out.2; omega⟩
      obtain ⟨t, ht⟩ : ∃ t, t = ds.getD j dp0 := ⟨_, rfl⟩
      have HTt : Hid (ds.getD j dp0 = t) := ht.symm
      rw [← ht] at cj
      clear hL hvl hpl hbel hcell h2 ht
      go_wp2_with fail
      have hmp := mapped_any K Inv B own1 wr pb _ one iv1 pv1 vs1 ps1 ds j HA.out.1 hjl HM.out.2 HM.out.1
      rw [HTt.out] at hmp
      refine hmp.mono ?_
      clear hmp
      rintro e W1 ⟨rfl, own2, iv2, pv2, vs2, ps2, hL2, hv2, hp2, hb2⟩
      have HA2 : Hid (AskRel K Inv B W pb (.slice (some ⟨g, 0, none⟩) N dc) one vs ps ds (4 * pollsN ds j + 4 * 0) (4 * (j + 1)) W1) := ⟨own2, iv2, pv2, vs2, ps2, hL2, by have := HA.out.2.1; omega, by have := HA.out.2.2.1; omega, HA.out.2.2.2.trans hb2⟩
      have HJ : Hid ((ds.getD j dp0).d.jobs.length ≤ 1000000000) := (HT.out _ (hL2.inv j hjl)).1
      obtain ⟨J, hJ⟩ : ∃ J, J = t.d.jobs.length := ⟨_, rfl⟩
      have HJJ : Hid (t.d.jobs.length = J) := hJ.symm
      have hJl : J ≤ 1000000000 := by rw [hJ, ← HTt.out]; exact HJ.out
      clear hL2 hv2 hp2 hb2 c0 cj HA hJ
      go_wp2
      go_loopw [6] (fun n wr2 => ∃ k : Nat, k ≤ J + 2 ∧ n = .int .i64 k ∧ AskRel K Inv B W pb (.slice (some ⟨g, 0, none⟩) N dc) one vs ps ds (4 * pollsN ds j + 4 * k) (4 * (j + 1)) wr2) (fun n _ => J + 2 - (intOf n).toNat)
      case atStart => exact ⟨0, Nat.zero_le _, rfl, HA2.out⟩
      case round =>
        obtain ⟨k, hk, rfl, hA⟩ := hrel
        clear HA2
        obtain ⟨own3, iv3, pv3, vs3, ps3, hL, hvl, hpl, hbel⟩ := hA
        have HA : Hid (LA K Inv B own3 wr pb (.slice (some ⟨g, 0, none⟩) N dc) one iv3 pv3 vs3 ps3 ds ∧ vs3.length = vs.length + (4 * pollsN ds j + 4 * k) ∧ ps3.length = ps.length + 4 * (j + 1) ∧ Below B W wr) := ⟨hL, hvl, hpl, hbel⟩
        have cy := hL.cy hjl
        obtain ⟨ja, jc, hjv⟩ := owns_form (hL.py j hjl).jobs
        have c4 : wr.cell? ⟨(ds.getD j dp0).y, 4, none⟩ = some (.slice ja (ds.getD j dp0).d.jobs.length jc) := by rw [blk_cell (hL.py j hjl).blk, ← hjv]; rfl
        rw [HTt.out] at cy c4
        rw [HJJ.out] at c4
        have hw : IntKind.i64.wrap ((J : Int) + 1) = (J : Int) + 1 := by rw [IntKind.wrap_i64]; omega
        clear hL hvl hpl hbel hjv
        by_cases hk2 : k < J + 2
        · have m2 : (k : Int) ≤ (J : Int) + 1 := by omega
          have HM2 : Hid (vs3.length ≤ 1000000000000 ∧ (ds.getD j dp0).d.jobs.length ≤ 1000000000000 ∧ ∀ q, q < (ds.getD j dp0).d.jobs.length → ((ds.getD j dp0).d.jobs.getD q jobM0).told.length ≤ 200) := by
            refine ⟨?_, by have := HJ.out; omega, (HT.out _ (HA.out.1.inv j hjl)).2.2⟩
            have e : pollsN ds (j + 1) = pollsN ds j + (J + 2) := by rw [pollsN, HTt.out, HJJ.out]
            have := pollsN_mono ds (show j + 1 ≤ ds.length from hjl)
            have := HV.out.1
            have := HA.out.2.1
            omega
          go_wp2_with fail
          have hpo := polled_any K Inv B own3 wr pb _ one iv3 pv3 vs3 ps3 ds j (k : Int) HA.out.1 hjl HM2.out.1 HM2.out.2.1 HM2.out.2.2
          rw [HTt.out] at hpo
          refine hpo.mono ?_
          clear hpo
          rintro e W3 ⟨rfl, own4, iv4, pv4, vs4, ps4, hL4, hv4, hp4, hb4⟩
          have HA4 : Hid (AskRel K Inv B W pb (.slice (some ⟨g, 0, none⟩) N dc) one vs ps ds (4 * pollsN ds j + 4 * (k + 1)) (4 * (j + 1)) W3) := ⟨own4, iv4, pv4, vs4, ps4, hL4, by have := HA.out.2.1; omega, by have := HA.out.2.2.1; omega, HA.out.2.2.2.trans hb4⟩
          clear hL4 hv4 hp4 hb4 cy c4
          go_wp2
          go_roundw
          case rel => exact ⟨k + 1, by omega, by go_num, HA4.out⟩
          case measure => simp [intOf]; omega
        · have m2 : ¬ ((k : Int) ≤ (J : Int) + 1) := by omega
          go_wp2
          go_roundw
          case rel =>
            refine ⟨j + 1, by omega, by go_num, own3, iv3, pv3, vs3, ps3, HA.out.1, ?_, HA.out.2.2.1, HA.out.2.2.2⟩
            have e : pollsN ds (j + 1) = pollsN ds j + (J + 2) := by rw [pollsN, HTt.out, HJJ.out]
            have := HA.out.2.1
            omega
          case measure => simp [intOf]; omega
    · obtain rfl : j = N := by omega
      obtain ⟨ia, ic, hiv⟩ := owns_form hL.lw.ints
      obtain ⟨pa, pc, hpv⟩ := owns_form hL.lw.prs
      subst hiv hpv
      have HW : Hid (vs1.length ≤ 1000000000000 ∧ ps1.length ≤ 1000000000000) := by
        have := HV.out
        have := HA.out.2.1
        have := HA.out.2.2.1
        rw [HN.out] at *
        constructor <;> omega
      clear hL hvl hpl hbel
      go_wp2_with fail
      refine (whole_any B wr pb _ _ ia _ ic pa _ pc vs1 ps1 rfl rfl HW.out.1 HW.out.2 HA.out.1.lw).mono ?_
      rintro e W4 ⟨rfl, hb4⟩
      have HE : Hid (AskedL K Inv B W pb (.slice da j dc) one ds (.returned (.bool true)) W4) := ⟨rfl, own1, _, _, vs1, ps1, HA.out.1.below hb4, HA.out.2.2.2.trans (hb4.mono HA.out.1.size)⟩
      clear hb4
      go_wp2
      go_ret
      exact HE.out

end Go.Proofs.Ytlbmcdoldnajoaa
