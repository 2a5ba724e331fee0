import Derived.Test.YtlbmcdoldnajoabKFunG
import Derived.Test.YtlbmcdoldnajoabKPm

namespace Go.Proofs.Ytlbmcdoldnajoab
open Go.RowKit
/-- what stays true when a worker is picked -/
def Stays (N : Nat) (J : RM → Prop) : Prop := ∀ (R : RM) (i : Nat), KOk N R → J R → i < R.d.c.workers → J (R.pickR i)
section
variable {o : Nat → Option Nat} {w : World} {b : Nat} {R : RM} {v : KV}
theorem pickR_c (R : RM) (i : Nat) : (R.pickR i).d.c = R.d.c := by rw [pickR_d, pick_c]
theorem roundR_c (R : RM) : ∀ k, (R.roundR k).d.c = R.d.c
  | 0 => rfl
  | k + 1 => by rw [RM.roundR, pickR_c, roundR_c R k]
/-- where finish stands ahead of a round: m rounds are left -/
def FinRel (o : Nat → Option Nat) (w : World) (b N : Nat) (J : RM → Prop) (c : ConfM) (m : Nat) (wr : World) : Prop := ∃ o1 v1 R1, KNow o w b o1 wr R1 v1 ∧ KOk N R1 ∧ J R1 ∧ Phi R1.d ≤ m ∧ R1.d.c = c
/-- and within one -/
def RndRel (o : Nat → Option Nat) (w : World) (b N : Nat) (J : RM → Prop) (R1 : RM) (k : Nat) (wr : World) : Prop := ∃ o1 v1, KNow o w b o1 wr (R1.roundR k) v1 ∧ KOk N (R1.roundR k) ∧ J (R1.roundR k)
/-- all have ended -/
def KFin (o : Nat → Option Nat) (w : World) (b N : Nat) (J : RM → Prop) (c : ConfM) (e : Ending) (w' : World) : Prop := e = .returned (.bool true) ∧ ∃ R', KStp o w b R' w' ∧ KOk N R' ∧ J R' ∧ openN R'.d = 0 ∧ R'.d.c = c
theorem open_n {o1 : Nat → Option Nat} {W : World} {R1 : RM} {v1 : KV} {N : Nat} (h : KP o1 W b R1 v1) (hk : KOk N R1) (hN : N ≤ 900000000) :
    Calls Try.prog 35 #[.pointer (some ⟨b, 0, none⟩)] W fun e w' => e = .returned (.int .i64 (openN R1.d : Int)) ∧ ∃ m, w' = W.drewN m := by
  have := open_q h (hk.sm hN)
  rw [open_eq hk.k] at this
  exact this
set_option maxRecDepth 100000 in
set_option maxHeartbeats 1000000 in
theorem finish_k {N : Nat} {J : RM → Prop} (hJ : Stays N J) (h : KP o w b R v) (hk : KOk N R) (hj : J R) (hN : N ≤ 900000000) :
    Calls Try.prog 13 #[ptrV b] w fun e w' => KFin o w b N J R.d.c e w' := by
  have H : Hid (KP o w b R v ∧ KOk N R ∧ J R ∧ N ≤ 900000000 ∧ Stays N J) := ⟨h, hk, hj, hN, hJ⟩
  have hc := hk.k.inv.conf
  have hop : openN R.d ≤ 900000000 := by
    have h1 : openN R.d ≤ R.d.jobs.length := List.length_filter_le _ _
    have := hk.k.len
    have := hk.len
    omega
  obtain ⟨cf, hcf⟩ : ∃ cf, cf = R.d.c := ⟨_, rfl⟩
  have c4 : w.cell? ⟨b, 4, none⟩ = some (.int .i64 (R.c.patience : Int)) := h.cell 4
  have c3 : w.cell? ⟨b, 3, none⟩ = some (.int .i64 (R.c.fuel : Int)) := h.cell 3
  rw [hk.k.conf, ← hcf] at c3 c4
  have HOp : Hid (∀ k, Calls Try.prog 35 #[.pointer (some ⟨b, 0, none⟩)] (w.drewN k) fun e w' => e = .returned (.int .i64 (openN R.d : Int)) ∧ ∃ m, w' = (w.drewN k).drewN m) := fun k => open_n (h.below (below_drewN (Below.refl _ w) k)) hk hN
  obtain ⟨m, hm⟩ : ∃ m, m = openN R.d * ((cf.patience + 2) * (cf.fuel + 4)) := ⟨_, rfl⟩
  have HPhi : Hid (Phi R.d ≤ m) := by
    show _ ≤ _
    have h1 := phi_bound R.d
    rw [← hcf] at h1
    rw [hm]
    exact Nat.le_trans h1 (Nat.mul_le_mul_left _ (Nat.mul_le_mul_left _ (by omega)))
  rw [← hcf] at hc ⊢
  have HC : Hid (R.d.c = cf ∧ (1 ≤ cf.workers ∧ cf.workers ≤ 4)) := ⟨hcf.symm, hc.1⟩
  generalize openN R.d = op at HOp hop hm
  have hmb : m ≤ 900000000 * (7 * 204) := by
    rw [hm]
    exact Nat.mul_le_mul hop (Nat.mul_le_mul (by omega) (by omega))
  obtain ⟨pa2, hpa2⟩ : ∃ z : Int, z = (cf.patience : Int) + 2 := ⟨_, rfl⟩
  obtain ⟨fu4, hfu4⟩ : ∃ z : Int, z = (cf.fuel : Int) + 4 := ⟨_, rfl⟩
  have hw1 : IntKind.i64.wrap ((cf.patience : Int) + 2) = pa2 := by rw [IntKind.wrap_i64]; omega
  have hw2 : IntKind.i64.wrap ((cf.fuel : Int) + 4) = fu4 := by rw [IntKind.wrap_i64]; omega
  obtain ⟨z1, hz1⟩ : ∃ z : Int, z = (op : Int) * pa2 := ⟨_, rfl⟩
  have hz1b : 0 ≤ z1 ∧ z1 ≤ 900000000 * 7 := by
    rw [hz1]
    exact ⟨Int.mul_nonneg (by omega) (by omega), Int.mul_le_mul (by omega) (by omega) (by omega) (by omega)⟩
  have hw3 : IntKind.i64.wrap ((op : Int) * pa2) = z1 := by rw [← hz1, IntKind.wrap_i64]; omega
  have hz2 : z1 * fu4 = (m : Int) := by
    rw [hz1, hpa2, hfu4, hm]
    simp only [Int.natCast_mul, Int.natCast_add, Int.mul_assoc]
    rfl
  have hw4 : IntKind.i64.wrap (z1 * fu4) = (m : Int) := by rw [hz2, IntKind.wrap_i64]; omega
  unfold ptrV
  clear h hk hj hN hJ hm hcf hpa2 hfu4 hz1 hz2 hz1b hop hc
  go_enter Try.func13, Try.ntmps13
  go_wp2
  go_quiet ((go_at_call 35; exact Calls.quiet_of (HOp.out _)))
  refine name_x (p := fun X => FinRel o w b N J cf m X) ⟨o, v, R, (KNow.start H.out.1).below (below_drewN (Below.refl _ w) _), H.out.2.1, H.out.2.2.1, HPhi.out, HC.out.1⟩ ?_
  rintro X hX
  have HX : Hid (FinRel o w b N J cf m X) := hX
  clear hX c3 c4 HOp hw1 hw2 hw3 hw4 HPhi
  go_wp2
  go_loopw [3] (fun n wr => ∃ q : Nat, q ≤ m ∧ n = .int .i64 q ∧ FinRel o w b N J cf q wr) (fun n _ => (intOf n).toNat)
  case atStart => exact ⟨m, Nat.le_refl _, rfl, HX.out⟩
  case round =>
    obtain ⟨q, hq, rfl, o1, v1, R1, hN1, hK1, hJ1, hP1, hC1⟩ := hrel
    have HR : Hid (KNow o w b o1 wr R1 v1 ∧ KOk N R1 ∧ J R1 ∧ Phi R1.d ≤ q ∧ R1.d.c = cf) := ⟨hN1, hK1, hJ1, hP1, hC1⟩
    clear hN1 hK1 hJ1 hP1 hC1 HX
    by_cases hq0 : q = 0
    · subst hq0
      have m0 : ¬ (0 : Int) < ((0 : Nat) : Int) := by omega
      have c8 : wr.cell? ⟨b, 8, none⟩ = some (.bool true) := HR.out.1.kp.cell 8
      have HZ : Hid (openN R1.d = 0) := phi_zero HR.out.2.1.k.inv HR.out.2.1.k.urg (by have := HR.out.2.2.2.1; omega)
      have hO := open_n HR.out.1.kp HR.out.2.1 H.out.2.2.2.1
      rw [HZ.out] at hO
      go_wp2_with fail
      refine hO.mono ?_
      clear hO
      rintro e W2 ⟨rfl, r, hW2⟩
      have HW2 : Hid (W2 = wr.drewN r) := hW2
      clear hW2
      go_wp2
      go_ret
      refine ⟨rfl, R1, ?_, HR.out.2.1, HR.out.2.2.1, HZ.out, HR.out.2.2.2.2⟩
      rw [HW2.out]
      exact (HR.out.1.below (below_drewN (Below.refl _ _) _)).done
    · have m0 : (0 : Int) < (q : Int) := by omega
      have m0n : 0 < q := by omega
      have hO := open_n HR.out.1.kp HR.out.2.1 H.out.2.2.2.1
      have c8 : wr.cell? ⟨b, 8, none⟩ = some (.bool true) := HR.out.1.kp.cell 8
      by_cases hz : openN R1.d = 0
      · have HZ : Hid (openN R1.d = 0) := hz
        rw [hz] at hO
        clear hz
        go_wp2_with fail
        refine hO.mono ?_
        clear hO
        rintro e W2 ⟨rfl, r, hW2⟩
        have hN2 : KNow o w b o1 W2 R1 v1 := by rw [hW2]; exact HR.out.1.below (below_drewN (Below.refl _ _) _)
        have HN2 : Hid (KNow o w b o1 W2 R1 v1) := hN2
        have hO := open_n hN2.kp HR.out.2.1 H.out.2.2.2.1
        rw [HZ.out] at hO
        have c8 : W2.cell? ⟨b, 8, none⟩ = some (.bool true) := hN2.kp.cell 8
        clear hW2 hN2
        go_wp2_with fail
        refine hO.mono ?_
        clear hO
        rintro e W3 ⟨rfl, r2, hW3⟩
        have HW3 : Hid (KStp o w b R1 W3) := by show KStp o w b R1 W3; rw [hW3]; exact (HN2.out.below (below_drewN (Below.refl _ _) _)).done
        clear hW3
        go_wp2
        go_ret
        exact ⟨rfl, R1, HW3.out, HR.out.2.1, HR.out.2.2.1, HZ.out, HR.out.2.2.2.2⟩
      · have HZ : Hid (0 < openN R1.d) := by show 0 < _; omega
        have m1 : (0 : Int) < (openN R1.d : Int) := by omega
        have m1n : 0 < openN R1.d := by omega
        generalize openN R1.d = op1 at hO m1 m1n hz
        go_wp2_with fail
        refine hO.mono ?_
        clear hO
        rintro e W2 ⟨rfl, r, hW2⟩
        have hN2 : KNow o w b o1 W2 R1 v1 := by rw [hW2]; exact HR.out.1.below (below_drewN (Below.refl _ _) _)
        have HN2 : Hid (RndRel o w b N J R1 0 W2) := ⟨o1, v1, hN2, HR.out.2.1, HR.out.2.2.1⟩
        have c8 : W2.cell? ⟨b, 8, none⟩ = some (.bool true) := hN2.kp.cell 8
        clear hW2 hN2
        go_wp2
        have HC1 : Hid (R1.d.c = cf ∧ R1.c = cf) := ⟨HR.out.2.2.2.2, by rw [HR.out.2.1.k.conf]; exact HR.out.2.2.2.2⟩
        obtain ⟨nw, hnw⟩ : ∃ nw, nw = cf.workers := ⟨_, rfl⟩
        have HNW : Hid (nw = cf.workers ∧ nw ≤ 4) := ⟨hnw, by rw [hnw]; exact HC.out.2.2⟩
        have hnw4 : nw ≤ 4 := HNW.out.2
        clear hnw
        go_loopw [4] (fun i wr2 => ∃ k : Nat, k ≤ nw ∧ i = .int .i64 k ∧ RndRel o w b N J R1 k wr2) (fun i _ => nw - (intOf i).toNat)
        case atStart => exact ⟨0, Nat.zero_le _, rfl, HN2.out⟩
        case round =>
          obtain ⟨k, hk, rfl, o2, v2, hN3, hK3, hJ3⟩ := hrel
          have HR3 : Hid (KNow o w b o2 wr (R1.roundR k) v2 ∧ KOk N (R1.roundR k) ∧ J (R1.roundR k)) := ⟨hN3, hK3, hJ3⟩
          have c1 : wr.cell? ⟨b, 1, none⟩ = some (.int .i64 ((R1.roundR k).c.workers : Int)) := hN3.kp.cell 1
          rw [hK3.k.conf, roundR_c, HC1.out.1, ← HNW.out.1] at c1
          clear hN3 hK3 hJ3
          by_cases hlt : k < nw
          · have m2 : (k : Int) < (nw : Int) := by omega
            have hkc : k < (R1.roundR k).d.c.workers := by rw [roundR_c, HC1.out.1, ← HNW.out.1]; exact hlt
            have hP := pick_k HR3.out.1.kp HR3.out.2.1 H.out.2.2.2.1 hkc
            have HKC : Hid (k < (R1.roundR k).d.c.workers) := hkc
            unfold ptrV at hP
            clear hkc
            go_wp2_with fail
            refine hP.mono ?_
            clear hP
            rintro e W4 ⟨rfl, hs⟩
            have HN4 : Hid (RndRel o w b N J R1 (k + 1) W4) := by
              obtain ⟨o4, v4, h4⟩ := HR3.out.1.stp hs
              exact ⟨o4, v4, h4, HR3.out.2.1.pick HKC.out, H.out.2.2.2.2 _ _ HR3.out.2.1 HR3.out.2.2 HKC.out⟩
            clear hs
            go_wp2
            go_roundw
            case rel => exact ⟨k + 1, by omega, by go_num, HN4.out⟩
            case measure => simp [intOf]; omega
          · obtain rfl : k = nw := by omega
            have HF : Hid (FinRel o w b N J cf (q - 1) wr) := by
              refine ⟨o2, v2, R1.roundR k, HR3.out.1, HR3.out.2.1, HR3.out.2.2, ?_, by rw [roundR_c]; exact HC1.out.1⟩
              obtain ⟨n0, hn0, hs0⟩ := open_pos HZ.out
              have h1 := round_Phi HR.out.2.1.k.inv HR.out.2.1.k.urg hn0 hs0
              rw [HC1.out.1, ← HNW.out.1] at h1
              rw [roundR_d]
              have := HR.out.2.2.2.1
              omega
            have hwq : IntKind.i64.wrap ((q : Int) - 1) = ((q - 1 : Nat) : Int) := by rw [IntKind.wrap_i64]; omega
            go_wp2
            go_roundw
            case rel => exact ⟨q - 1, by omega, by go_num, HF.out⟩
            case measure => simp [intOf]; omega
end
end Go.Proofs.Ytlbmcdoldnajoab
namespace Go.Proofs.Ytlbmcdoldnajoab
/-- the job n, whose steps are l, runs alone at the worker w, k steps done, over the attempts g0 -/
structure Al (d : DeskM) (w n k : Nat) (l : List St) (g0 : List GoodM) : Prop where
  wk : d.wk w = ⟨n, g0.length, k⟩
  goods : d.goods = g0
  has : d.Has n
  steps : (d.job n).steps = l
  tries : (d.job n).tries = 1
  failed : (d.job n).failed = 0
  rest : ∀ m, d.Has m → m ≠ n → 2 < (d.job m).state
/-- it has run so -/
structure Ae (d : DeskM) (n : Nat) (l : List St) (g0 : List GoodM) : Prop where
  has : d.Has n
  over : ∀ m, d.Has m → 2 < (d.job m).state
  state : (d.job n).state = endState l (play l (mapF g0) d.c.fuel mo0)
  told : (d.job n).told = (play l (mapF g0) d.c.fuel mo0).told
  tries : (d.job n).tries = 1
  failed : (d.job n).failed = 0
  map : mapF d.goods = mapAfter l (mapF g0) (play l (mapF g0) d.c.fuel mo0)
theorem over_idle {d : DeskM} (h : DInv d) (ho : ∀ m, d.Has m → 2 < (d.job m).state) {i : Nat} (hi : i < d.c.workers) : (d.wk i).ticket = 0 := by
  refine Classical.byContradiction fun h0 => ?_
  have hw := h.work i hi h0
  have := ho _ hw.1
  rw [hw.2.1] at this
  omega
theorem over_next {d : DeskM} (h : DInv d) (ho : ∀ m, d.Has m → 2 < (d.job m).state) : d.nextJob = 0 := by
  refine Classical.byContradiction fun h0 => ?_
  rcases next_mem h0 with hm | hm
  · have := (h.urM _).1 hm
    have := ho _ this.1
    omega
  · have := (h.quM _).1 hm
    have := ho _ this.1
    omega
theorem over_pick {d : DeskM} (h : DInv d) (ho : ∀ m, d.Has m → 2 < (d.job m).state) {i : Nat} (hi : i < d.c.workers) : (d.pick i).1 = d := by
  obtain ⟨_, hc⟩ := pick_cases h hi
  have h0 := over_idle h ho hi
  have hn := over_next h ho
  cases hc with
  | rest _ _ he _ _ _ => exact he
  | took _ hn' hn0 _ _ _ => exact absurd (hn'.trans hn) hn0
  | step h1 hn0 _ _ _ => exact absurd (h1.symm.trans h0) hn0
  | good h1 hn0 _ _ _ _ _ _ _ _ _ => exact absurd (h1.symm.trans h0) hn0
  | fail h1 hn0 _ _ _ _ _ _ _ _ _ _ _ _ _ _ _ _ => exact absurd (h1.symm.trans h0) hn0
theorem over_wait {d : DeskM} (h : DInv d) (ho : ∀ m, d.Has m → 2 < (d.job m).state) : d.waiting = 0 := by
  rw [waitingD_eq h]
  have h1 : d.queue = [] := List.eq_nil_iff_forall_not_mem.2 fun n hn => by
    have := (h.quM n).1 hn
    have := ho _ this.1
    omega
  have h2 : d.urgent = [] := List.eq_nil_iff_forall_not_mem.2 fun n hn => by
    have := (h.urM n).1 hn
    have := ho _ this.1
    omega
  rw [h1, h2]; rfl
/-- a job is handed in where all are over -/
theorem al_say {d : DeskM} (h : DInv d) (ho : ∀ m, d.Has m → 2 < (d.job m).state) {l : List St} (hl : jobB l = true) :
    d.submit l = ({ d with jobs := d.jobs ++ [⟨l, 1, [], 0, 0, false⟩], queue := d.queue ++ [d.jobs.length + 1] }, d.jobs.length + 1, 0) := by
  unfold DeskM.submit
  have := over_wait h ho
  have := h.conf
  rw [if_neg (by rw [hl]; simp), if_neg (by omega)]
/-- it is taken -/
theorem al_took {d : DeskM} (h : DInv d) (ho : ∀ m, d.Has m → 2 < (d.job m).state) {l : List St} (hl : jobB l = true) {w : Nat} (hw : w < d.c.workers) :
    Al ((d.submit l).1.pick w).1 w (d.jobs.length + 1) 0 l d.goods := by
  have hd := h.submit l
  have he := congrArg Prod.fst (al_say h ho hl)
  simp only at he
  generalize (d.submit l).1 = e at *
  obtain ⟨n, hn⟩ : ∃ n, n = d.jobs.length + 1 := ⟨_, rfl⟩
  rw [← hn] at he ⊢
  have hjl : e.jobs.length = n := by rw [he, hn]; simp
  have hnew : e.job n = ⟨l, 1, [], 0, 0, false⟩ := by rw [he, hn]; simp [DeskM.job, List.getD]
  have hold : ∀ m, d.Has m → e.job m = d.job m := fun m hm => by
    have h1 := hm.1
    have h2 := hm.2
    rw [he]
    simp only [DeskM.job, List.getD]
    rw [List.getElem?_append_left (by omega)]
  have hcase : ∀ m, e.Has m → m ≠ n → 2 < (e.job m).state := fun m hm hne => by
    have h1 := hm.1
    have h2 := hm.2
    have hdm : d.Has m := ⟨h1, by omega⟩
    rw [hold m hdm]
    exact ho m hdm
  have hec : e.c = d.c := by rw [he]
  have heg : e.goods = d.goods := by rw [he]
  have hew : e.workers = d.workers := by rw [he]
  have hhas : e.Has n := ⟨by omega, by omega⟩
  have hid : ∀ i, i < e.c.workers → (e.wk i).ticket = 0 := fun i hi => by
    have : e.wk i = d.wk i := by unfold DeskM.wk; rw [hew]
    rw [this]
    exact over_idle h ho (by rw [← hec]; exact hi)
  have hwe : w < e.c.workers := by rw [hec]; exact hw
  have hnx : e.nextJob ≠ 0 := next_some hd hid hhas (by rw [hnew]; show (1 : Int) ≤ 2; decide)
  have hnn : e.nextJob = n := by
    refine Classical.byContradiction fun hne => ?_
    rcases next_mem hnx with hm | hm
    · have hm := (hd.urM _).1 hm
      have := hcase _ hm.1 hne
      omega
    · have hm := (hd.quM _).1 hm
      have := hcase _ hm.1 hne
      omega
  obtain ⟨_, hc⟩ := pick_cases hd hwe
  have h0 := hid w hwe
  cases hc with
  | rest _ hn' _ _ _ _ => exact absurd hn' hnx
  | step h1 hn0 _ _ _ => exact absurd (h1.symm.trans h0) hn0
  | good h1 hn0 _ _ _ _ _ _ _ _ _ => exact absurd (h1.symm.trans h0) hn0
  | fail h1 hn0 _ _ _ _ _ _ _ _ _ _ _ _ _ _ _ _ => exact absurd (h1.symm.trans h0) hn0
  | took _ _ _ he2 _ _ =>
    have hn0 : n ≠ 0 := by omega
    have he' : (e.pick w).1 = { e.setJob n { e.job n with state := 2, tries := (e.job n).tries + 1 } with queue := DeskM.left e.queue n, urgent := DeskM.left e.urgent n, workers := e.workers.set w ⟨n, e.goods.length, 0⟩ } := by
      rw [he2]; unfold DeskM.taken; simp only; rw [hnn, if_neg hn0]
    generalize (e.pick w).1 = f at *
    have hj : ∀ m, 1 ≤ m → f.job m = if m = n then { e.job n with state := 2, tries := (e.job n).tries + 1 } else e.job m := fun m hm => by
      rw [he']; exact job_set hhas hm _
    have hfh : ∀ m, f.Has m ↔ e.Has m := fun m => by rw [he']; unfold DeskM.Has; rw [show ({ e.setJob n { e.job n with state := 2, tries := (e.job n).tries + 1 } with queue := DeskM.left e.queue n, urgent := DeskM.left e.urgent n, workers := e.workers.set w ⟨n, e.goods.length, 0⟩ } : DeskM).jobs.length = e.jobs.length from set_len e n _]
    refine ⟨?_, by rw [he', ← heg]; rfl, (hfh n).2 hhas, by rw [hj n hhas.1, if_pos rfl, hnew], by rw [hj n hhas.1, if_pos rfl, hnew], by rw [hj n hhas.1, if_pos rfl, hnew], fun m hm hne => ?_⟩
    · rw [he']
      show (e.workers.set w ⟨n, e.goods.length, 0⟩).getD w att0 = _
      rw [wk_set (by rw [hd.wlen]; exact hwe), if_pos rfl, heg]
    · rw [hj m hm.1, if_neg hne]
      exact hcase m ((hfh m).1 hm) hne
/-- and goes on, or ends -/
theorem al_pick {d : DeskM} (h : DInv d) {w n k : Nat} {l : List St} {g0 : List GoodM} (hw : w < d.c.workers) (ha : Al d w n k l g0) : Al (d.pick w).1 w n (k + 1) l g0 ∨ Ae (d.pick w).1 n l g0 := by
  have hn0 : n ≠ 0 := by have := ha.has.1; omega
  have hwk := ha.wk
  have hwt : (d.wk w).ticket = n := by rw [hwk]
  have hwb : (d.wk w).beg = d.goods.length := by rw [hwk, ha.goods]
  have hwl : w < d.workers.length := by rw [h.wlen]; exact hw
  have hgt : d.goods.take (d.wk w).beg = g0 := by rw [hwb, List.take_length, ha.goods]
  obtain ⟨_, hc⟩ := pick_cases h hw
  generalize (d.pick w).1 = e at *
  cases hc with
  | rest h0 _ _ _ _ _ => exact absurd (hwt.symm.trans h0) hn0
  | took h0 _ _ _ _ _ => exact absurd (hwt.symm.trans h0) hn0
  | fail _ _ q hq _ _ _ _ _ _ _ _ _ _ _ _ _ _ => rw [hwb] at hq; omega
  | step h1 _ he _ _ =>
    refine Or.inl ⟨?_, by rw [he]; exact ha.goods, by rw [he]; exact ha.has, by rw [he]; exact ha.steps, by rw [he]; exact ha.tries, by rw [he]; exact ha.failed, fun m hm hne => by rw [he] at hm ⊢; exact ha.rest m hm hne⟩
    rw [he]
    show (d.workers.set w _).getD w att0 = _
    rw [wk_set hwl, if_pos rfl, hwk]
  | good h1 _ st x t hx hst ht he _ _ =>
    have h1' := h1.symm.trans hwt
    rw [h1'] at hx hst ht he
    rw [ha.steps, hgt] at hx
    rw [ha.steps] at hst
    have hfin : x.fin = 0 ∨ x.fin = 4 ∨ x.fin = 5 := by rw [hx]; exact play_fin _ _ _ _ (Or.inl rfl)
    have hbd : 3 ≤ st ∧ st ≤ 5 := by rw [hst]; exact end_bd hfin
    have hj : ∀ m, 1 ≤ m → e.job m = if m = n then { d.job n with state := st, told := x.told } else d.job m := fun m hm => by
      rw [he]; exact job_set ha.has hm _
    have hfh : ∀ m, e.Has m ↔ d.Has m := fun m => by rw [he]; unfold DeskM.Has; rw [show ({ d.setJob n { d.job n with state := st, told := x.told } with workers := d.workers.set w att0, goods := d.goods ++ [t] } : DeskM).jobs.length = d.jobs.length from set_len d n _]
    have hec : e.c = d.c := by rw [he]; rfl
    have hn1 := ha.has.1
    refine Or.inr ⟨(hfh n).2 ha.has, fun m hm => ?_, ?_, ?_, ?_, ?_, ?_⟩
    · rw [hj m hm.1]
      by_cases e1 : m = n
      · rw [if_pos e1]; show 2 < st; omega
      · rw [if_neg e1]; exact ha.rest m ((hfh m).1 hm) e1
    · rw [hj n hn1, if_pos rfl, hec, ← hx]; exact hst
    · rw [hj n hn1, if_pos rfl, hec, ← hx]
    · rw [hj n hn1, if_pos rfl]; exact ha.tries
    · rw [hj n hn1, if_pos rfl]; exact ha.failed
    · rw [hec, ← hx]
      have : e.goods = g0 ++ [t] := by rw [he, ← ha.goods]
      rw [this, mapF_snoc, ht]
      unfold mapAfter
      rw [hst]
      show see (mapF g0) (if _ then _ else _) = _
      split
      · rfl
      · funext k; simp [see]
theorem ae_pick {d : DeskM} (h : DInv d) {w n : Nat} {l : List St} {g0 : List GoodM} (hw : w < d.c.workers) (ha : Ae d n l g0) : Ae (d.pick w).1 n l g0 := by rw [over_pick h ha.over hw]; exact ha
end Go.Proofs.Ytlbmcdoldnajoab
