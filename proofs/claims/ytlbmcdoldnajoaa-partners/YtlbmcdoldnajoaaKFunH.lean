import Derived.Test.YtlbmcdoldnajoaaKFunG

namespace Go.Proofs.Ytlbmcdoldnajoaa
open Go.RowKit
/-- what stays true when a worker is picked -/
def Stays (N : Nat) (J : RM → Prop) : Prop := ∀ (R : RM) (i : Nat), KOk N R → J R → i < R.d.c.workers → J (R.pickR i)
section
variable {o : Nat → Option Nat} {w : World} {b : Nat} {R : RM} {v : KV}
theorem pickR_c (R : RM) (i : Nat) : (R.pickR i).d.c = R.d.c := by rw [pickR_d, pick_c]
theorem roundR_c (R : RM) : ∀ k, (R.roundR k).d.c = R.d.c
  | 0 => rfl
  | k + 1 => by rw [RM.roundR, pickR_c, roundR_c R k]
/-- where finish stands ahead of a round: m rounds are left -/
def FinRel (o : Nat → Option Nat) (w : World) (b N : Nat) (J : RM → Prop) (c : ConfM) (m : Nat) (wr : World) : Prop := ∃ o1 v1 R1, KNow o w b o1 wr R1 v1 ∧ KOk N R1 ∧ J R1 ∧ Phi R1.d ≤ m ∧ R1.d.c = c
/-- and within one -/
def RndRel (o : Nat → Option Nat) (w : World) (b N : Nat) (J : RM → Prop) (R1 : RM) (k : Nat) (wr : World) : Prop := ∃ o1 v1, KNow o w b o1 wr (R1.roundR k) v1 ∧ KOk N (R1.roundR k) ∧ J (R1.roundR k)
/-- all have ended -/
def KFin (o : Nat → Option Nat) (w : World) (b N : Nat) (J : RM → Prop) (c : ConfM) (e : Ending) (w' : World) : Prop := e = .returned (.bool true) ∧ ∃ R', KStp o w b R' w' ∧ KOk N R' ∧ J R' ∧ openN R'.d = 0 ∧ R'.d.c = c
theorem open_n {o1 : Nat → Option Nat} {W : World} {R1 : RM} {v1 : KV} {N : Nat} (h : KP o1 W b R1 v1) (hk : KOk N R1) (hN : N ≤ 900000000) :
    Calls Try.prog 35 #[.pointer (some ⟨b, 0, none⟩)] W fun e w' => e = .returned (.int .i64 (openN R1.d : Int)) ∧ ∃ m, w' = W.drewN m := by
  have := open_q h (hk.sm hN)
  rw [open_eq hk.k] at this
  exact this
set_option maxRecDepth 100000 in
set_option maxHeartbeats 1000000 in
theorem finish_k {N : Nat} {J : RM → Prop} (hJ : Stays N J) (h : KP o w b R v) (hk : KOk N R) (hj : J R) (hN : N ≤ 900000000) :
    Calls Try.prog 39 #[ptrV b] w fun e w' => KFin o w b N J R.d.c e w' := by
  have H : Hid (KP o w b R v ∧ KOk N R ∧ J R ∧ N ≤ 900000000 ∧ Stays N J) := ⟨h, hk, hj, hN, hJ⟩
  have hc := hk.k.inv.conf
  have hop : openN R.d ≤ 900000000 := by
    have h1 : openN R.d ≤ R.d.jobs.length := List.length_filter_le _ _
    have := hk.k.len
    have := hk.len
    omega
  obtain ⟨cf, hcf⟩ : ∃ cf, cf = R.d.c := ⟨_, rfl⟩
  have c4 : w.cell? ⟨b, 4, none⟩ = some (.int .i64 (R.c.patience : Int)) := h.cell 4
  have c3 : w.cell? ⟨b, 3, none⟩ = some (.int .i64 (R.c.fuel : Int)) := h.cell 3
  rw [hk.k.conf, ← hcf] at c3 c4
  have HOp : Hid (∀ k, Calls Try.prog 35 #[.pointer (some ⟨b, 0, none⟩)] (w.drewN k) fun e w' => e = .returned (.int .i64 (openN R.d : Int)) ∧ ∃ m, w' = (w.drewN k).drewN m) := fun k => open_n (h.below (below_drewN (Below.refl _ w) k)) hk hN
  obtain ⟨m, hm⟩ : ∃ m, m = openN R.d * ((cf.patience + 2) * (cf.fuel + 4)) := ⟨_, rfl⟩
  have HPhi : Hid (Phi R.d ≤ m) := by
    show _ ≤ _
    have h1 := phi_bound R.d
    rw [← hcf] at h1
    rw [hm]
    exact Nat.le_trans h1 (Nat.mul_le_mul_left _ (Nat.mul_le_mul_left _ (by omega)))
  rw [← hcf] at hc ⊢
  have HC : Hid (R.d.c = cf ∧ (1 ≤ cf.workers ∧ cf.workers ≤ 4)) := ⟨hcf.symm, hc.1⟩
  generalize openN R.d = op at HOp hop hm
  have hmb : m ≤ 900000000 * (7 * 204) := by
    rw [hm]
    exact Nat.mul_le_mul hop (Nat.mul_le_mul (by omega) (by omega))
  obtain ⟨pa2, hpa2⟩ : ∃ z : Int, z = (cf.patience : Int) + 2 := ⟨_, rfl⟩
  obtain ⟨fu4, hfu4⟩ : ∃ z : Int, z = (cf.fuel : Int) + 4 := ⟨_, rfl⟩
  have hw1 : IntKind.i64.wrap ((cf.patience : Int) + 2) = pa2 := by rw [IntKind.wrap_i64]; omega
  have hw2 : IntKind.i64.wrap ((cf.fuel : Int) + 4) = fu4 := by rw [IntKind.wrap_i64]; omega
  obtain ⟨z1, hz1⟩ : ∃ z : Int, z = (op : Int) * pa2 := ⟨_, rfl⟩
  have hz1b : 0 ≤ z1 ∧ z1 ≤ 900000000 * 7 := by
    rw [hz1]
    exact ⟨Int.mul_nonneg (by omega) (by omega), Int.mul_le_mul (by omega) (by omega) (by omega) (by omega)⟩
  have hw3 : IntKind.i64.wrap ((op : Int) * pa2) = z1 := by rw [← hz1, IntKind.wrap_i64]; omega
  have hz2 : z1 * fu4 = (m : Int) := by
    rw [hz1, hpa2, hfu4, hm]
    simp only [Int.natCast_mul, Int.natCast_add, Int.mul_assoc]
    rfl
  have hw4 : IntKind.i64.wrap (z1 * fu4) = (m : Int) := by rw [hz2, IntKind.wrap_i64]; omega
  unfold ptrV
  clear h hk hj hN hJ hm hcf hpa2 hfu4 hz1 hz2 hz1b hop hc
  go_enter Try.func39, Try.ntmps39
  go_wp2
  go_quiet ((go_at_call 35; exact Calls.quiet_of (HOp.out _)))
  refine name_x (p := fun X => FinRel o w b N J cf m X) ⟨o, v, R, (KNow.start H.out.1).below (below_drewN (Below.refl _ w) _), H.out.2.1, H.out.2.2.1, HPhi.out, HC.out.1⟩ ?_
  rintro X hX
  have HX : Hid (FinRel o w b N J cf m X) := hX
  clear hX c3 c4 HOp hw1 hw2 hw3 hw4 HPhi
  go_wp2
  go_loopw [3] (fun n wr => ∃ q : Nat, q ≤ m ∧ n = .int .i64 q ∧ FinRel o w b N J cf q wr) (fun n _ => (intOf n).toNat)
  case atStart => exact ⟨m, Nat.le_refl _, rfl, HX.out⟩
  case round =>
    obtain ⟨q, hq, rfl, o1, v1, R1, hN1, hK1, hJ1, hP1, hC1⟩ := hrel
    have HR : Hid (KNow o w b o1 wr R1 v1 ∧ KOk N R1 ∧ J R1 ∧ Phi R1.d ≤ q ∧ R1.d.c = cf) := ⟨hN1, hK1, hJ1, hP1, hC1⟩
    clear hN1 hK1 hJ1 hP1 hC1 HX
    by_cases hq0 : q = 0
    · subst hq0
      have m0 : ¬ (0 : Int) < ((0 : Nat) : Int) := by omega
      have c8 : wr.cell? ⟨b, 8, none⟩ = some (.bool true) := HR.out.1.kp.cell 8
      have HZ : Hid (openN R1.d = 0) := phi_zero HR.out.2.1.k.inv HR.out.2.1.k.urg (by have := HR.out.2.2.2.1; omega)
      have hO := open_n HR.out.1.kp HR.out.2.1 H.out.2.2.2.1
      rw [HZ.out] at hO
      go_wp2_with fail
      refine hO.mono ?_
      clear hO
      rintro e W2 ⟨rfl, r, hW2⟩
      have HW2 : Hid (W2 = wr.drewN r) := hW2
      clear hW2
      go_wp2
      go_ret
      refine ⟨rfl, R1, ?_, HR.out.2.1, HR.out.2.2.1, HZ.out, HR.out.2.2.2.2⟩
      rw [HW2.out]
      exact (HR.out.1.below (below_drewN (Below.refl _ _) _)).done
    · have m0 : (0 : Int) < (q : Int) := by omega
      have m0n : 0 < q := by omega
      have hO := open_n HR.out.1.kp HR.out.2.1 H.out.2.2.2.1
      have c8 : wr.cell? ⟨b, 8, none⟩ = some (.bool true) := HR.out.1.kp.cell 8
      by_cases hz : openN R1.d = 0
      · have HZ : Hid (openN R1.d = 0) := hz
        rw [hz] at hO
        clear hz
        go_wp2_with fail
        refine hO.mono ?_
        clear hO
        rintro e W2 ⟨rfl, r, hW2⟩
        have hN2 : KNow o w b o1 W2 R1 v1 := by rw [hW2]; exact HR.out.1.below (below_drewN (Below.refl _ _) _)
        have HN2 : Hid (KNow o w b o1 W2 R1 v1) := hN2
        have hO := open_n hN2.kp HR.out.2.1 H.out.2.2.2.1
        rw [HZ.out] at hO
        have c8 : W2.cell? ⟨b, 8, none⟩ = some (.bool true) := hN2.kp.cell 8
        clear hW2 hN2
        go_wp2_with fail
        refine hO.mono ?_
        clear hO
        rintro e W3 ⟨rfl, r2, hW3⟩
        have HW3 : Hid (KStp o w b R1 W3) := by show KStp o w b R1 W3; rw [hW3]; exact (HN2.out.below (below_drewN (Below.refl _ _) _)).done
        clear hW3
        go_wp2
        go_ret
        exact ⟨rfl, R1, HW3.out, HR.out.2.1, HR.out.2.2.1, HZ.out, HR.out.2.2.2.2⟩
      · have HZ : Hid (0 < openN R1.d) := by show 0 < _; omega
        have m1 : (0 : Int) < (openN R1.d : Int) := by omega
        have m1n : 0 < openN R1.d := by omega
        generalize openN R1.d = op1 at hO m1 m1n hz
        go_wp2_with fail
        refine hO.mono ?_
        clear hO
        rintro e W2 ⟨rfl, r, hW2⟩
        have hN2 : KNow o w b o1 W2 R1 v1 := by rw [hW2]; exact HR.out.1.below (below_drewN (Below.refl _ _) _)
        have HN2 : Hid (RndRel o w b N J R1 0 W2) := ⟨o1, v1, hN2, HR.out.2.1, HR.out.2.2.1⟩
        have c8 : W2.cell? ⟨b, 8, none⟩ = some (.bool true) := hN2.kp.cell 8
        clear hW2 hN2
        go_wp2
        have HC1 : Hid (R1.d.c = cf ∧ R1.c = cf) := ⟨HR.out.2.2.2.2, by rw [HR.out.2.1.k.conf]; exact HR.out.2.2.2.2⟩
        obtain ⟨nw, hnw⟩ : ∃ nw, nw = cf.workers := ⟨_, rfl⟩
        have HNW : Hid (nw = cf.workers ∧ nw ≤ 4) := ⟨hnw, by rw [hnw]; exact HC.out.2.2⟩
        have hnw4 : nw ≤ 4 := HNW.out.2
        clear hnw
        go_loopw [4] (fun i wr2 => ∃ k : Nat, k ≤ nw ∧ i = .int .i64 k ∧ RndRel o w b N J R1 k wr2) (fun i _ => nw - (intOf i).toNat)
        case atStart => exact ⟨0, Nat.zero_le _, rfl, HN2.out⟩
        case round =>
          obtain ⟨k, hk, rfl, o2, v2, hN3, hK3, hJ3⟩ := hrel
          have HR3 : Hid (KNow o w b o2 wr (R1.roundR k) v2 ∧ KOk N (R1.roundR k) ∧ J (R1.roundR k)) := ⟨hN3, hK3, hJ3⟩
          have c1 : wr.cell? ⟨b, 1, none⟩ = some (.int .i64 ((R1.roundR k).c.workers : Int)) := hN3.kp.cell 1
          rw [hK3.k.conf, roundR_c, HC1.out.1, ← HNW.out.1] at c1
          clear hN3 hK3 hJ3
          by_cases hlt : k < nw
          · have m2 : (k : Int) < (nw : Int) := by omega
            have hkc : k < (R1.roundR k).d.c.workers := by rw [roundR_c, HC1.out.1, ← HNW.out.1]; exact hlt
            have hP := pick_k HR3.out.1.kp HR3.out.2.1 H.out.2.2.2.1 hkc
            have HKC : Hid (k < (R1.roundR k).d.c.workers) := hkc
            unfold ptrV at hP
            clear hkc
            go_wp2_with fail
            refine hP.mono ?_
            clear hP
            rintro e W4 ⟨rfl, hs⟩
            have HN4 : Hid (RndRel o w b N J R1 (k + 1) W4) := by
              obtain ⟨o4, v4, h4⟩ := HR3.out.1.stp hs
              exact ⟨o4, v4, h4, HR3.out.2.1.pick HKC.out, H.out.2.2.2.2 _ _ HR3.out.2.1 HR3.out.2.2 HKC.out⟩
            clear hs
            go_wp2
            go_roundw
            case rel => exact ⟨k + 1, by omega, by go_num, HN4.out⟩
            case measure => simp [intOf]; omega
          · obtain rfl : k = nw := by omega
            have HF : Hid (FinRel o w b N J cf (q - 1) wr) := by
              refine ⟨o2, v2, R1.roundR k, HR3.out.1, HR3.out.2.1, HR3.out.2.2, ?_, by rw [roundR_c]; exact HC1.out.1⟩
              obtain ⟨n0, hn0, hs0⟩ := open_pos HZ.out
              have h1 := round_Phi HR.out.2.1.k.inv HR.out.2.1.k.urg hn0 hs0
              rw [HC1.out.1, ← HNW.out.1] at h1
              rw [roundR_d]
              have := HR.out.2.2.2.1
              omega
            have hwq : IntKind.i64.wrap ((q : Int) - 1) = ((q - 1 : Nat) : Int) := by rw [IntKind.wrap_i64]; omega
            go_wp2
            go_roundw
            case rel => exact ⟨q - 1, by omega, by go_num, HF.out⟩
            case measure => simp [intOf]; omega
end
end Go.Proofs.Ytlbmcdoldnajoaa
