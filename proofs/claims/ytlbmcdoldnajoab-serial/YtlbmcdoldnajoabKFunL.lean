import Derived.Test.YtlbmcdoldnajoabKFunK

namespace Go.Proofs.Ytlbmcdoldnajoab
open Go.RowKit
section
variable {o : Nat → Option Nat} {w : World} {b : Nat} {R : RM} {v : KV}
/-- where play stands behind j steps -/
def PlRel (o : Nat → Option Nat) (w : World) (b : Nat) (R : RM) (S : List Sc) (j : Nat) (wr : World) : Prop := ∃ o1 v1, KNow o w b o1 wr (R.playR (S.take j)) v1
theorem play_take (R : RM) (S : List Sc) {j : Nat} (hj : j < S.length) : R.playR (S.take (j + 1)) = (R.playR (S.take j)).stepR (S.getD j sc0) := by
  rw [List.take_succ_eq_append_getElem hj, playR_snoc]
  simp [List.getD, hj]
/-- a box of three cells -/
theorem sc_box {W : World} {k : Nat} {x y : Int} {u : Value} {t : TypeId} (h : W.heap[k]? = some (.cells #[.int .i64 x, .int .i64 y, u] t (0, 0))) :
    W.cell? ⟨k, 0, none⟩ = some (.int .i64 x) ∧ W.cell? ⟨k, 1, none⟩ = some (.int .i64 y) ∧ W.cell? ⟨k, 2, none⟩ = some u ∧ k < W.heap.size :=
  ⟨by rw [blk_cell h]; rfl, by rw [blk_cell h]; rfl, by rw [blk_cell h]; rfl, blk_lt h⟩
set_option maxRecDepth 100000 in
set_option maxHeartbeats 1000000 in
theorem play_k {N B : Nat} (h : KP o w b R v) (hk : KOk1 N R) {S : List Sc} (hN : N + S.length ≤ 900000000) {sv : Value} (hs : ScrAt B w sv S) (hB : ∀ k, o k ≠ none → B ≤ k) (hBw : B ≤ w.heap.size) :
    Calls Try.prog 12 #[ptrV b, sv] w fun e w' => KDone o w b (R.playR S) e w' := by
  have H : Hid (KP o w b R v ∧ KOk1 N R ∧ N + S.length ≤ 900000000 ∧ ScrAt B w sv S ∧ (∀ k, o k ≠ none → B ≤ k) ∧ B ≤ w.heap.size) := ⟨h, hk, hN, hs, hB, hBw⟩
  obtain ⟨⟨ao, cap, hv, hcells⟩, _⟩ := hs
  subst hv
  obtain ⟨n, hn⟩ : ∃ n, n = S.length := ⟨_, rfl⟩
  have HN : Hid (n = S.length) := hn
  rw [← hn] at hN ⊢
  have hn9 : n ≤ 900000000 := by omega
  unfold ptrV
  clear h hk hB hBw hcells hn hN
  go_enter Try.func12, Try.ntmps12
  go_wp2
  go_loopw [4] (fun i wr => ∃ j : Nat, j ≤ n ∧ i = .int .i64 j ∧ PlRel o w b R S j wr) (fun i _ => n - (intOf i).toNat)
  case atStart => exact ⟨0, Nat.zero_le _, rfl, o, v, KNow.start H.out.1⟩
  case round =>
    obtain ⟨j, hj, rfl, o1, v1, hN1⟩ := hrel
    have HN1 : Hid (KNow o w b o1 wr (R.playR (S.take j)) v1) := hN1
    have c8 : wr.cell? ⟨b, 8, none⟩ = some (.bool true) := hN1.kp.cell 8
    clear hN1
    by_cases hlt : j < n
    · have hjl : j < S.length := by rw [← HN.out]; exact hlt
      have m1 : (j : Int) < (n : Int) := by omega
      obtain ⟨hOk, hC⟩ := H.out.2.1.play (S.take j)
      have hjt : (S.take j).length = j := by simp; omega
      rw [hjt] at hOk
      have HOk : Hid (KOk1 (N + j) (R.playR (S.take j)) ∧ N + j ≤ 900000000) := ⟨hOk, by have := H.out.2.2.1; omega⟩
      have HNx : Hid (R.playR (S.take (j + 1)) = (R.playR (S.take j)).stepR (S.getD j sc0)) := play_take R S hjl
      have hbw : Below B w wr := HN1.out.fr.below (fun k hk => H.out.2.2.2.2.1 k hk.some) H.out.2.2.2.2.2
      obtain ⟨⟨ao', cap', hv', hcl⟩, hit⟩ := H.out.2.2.2.1.below hbw
      injection hv' with e1 e2 e3
      subst e1 e3
      rcases hcl with hcl | ⟨sb, off, e4, hsl, hcl⟩
      · rw [hcl] at hjl; exact absurd hjl (Nat.not_lt_zero _)
      subst e4
      obtain ⟨s0, s1, s2⟩ := hcl j hjl
      have hmem : S.getD j sc0 ∈ S := by simp [List.getD, hjl]
      obtain ⟨a1, a2, a3, a4, a5⟩ := hit _ hmem
      obtain ⟨sc, hsc⟩ : ∃ sc, sc = S.getD j sc0 := ⟨_, rfl⟩
      rw [← hsc] at s0 s1 s2 a1 a2 a3 a4 a5 HNx
      obtain ⟨R1, hR1⟩ : ∃ R1, R1 = R.playR (S.take j) := ⟨_, rfl⟩
      rw [← hR1] at HN1 HOk HNx hC
      obtain ⟨sk, sn, slv, sxs⟩ := sc
      simp only at s0 s1 s2 a1 a2 a3 a4 a5
      have HIt : Hid (i64B sn ∧ (∀ x ∈ sxs, i64B x) ∧ (∀ W, Below B wr W → IntsV W slv sxs) ∧ ∀ ao n cap, slv = .slice ao n cap → n ≤ cap) := ⟨a2, a3, a4, a5⟩
      have HBw : Hid (Below B w wr ∧ B ≤ wr.heap.size) := ⟨hbw, Nat.le_trans H.out.2.2.2.2.2 HN1.out.fr.size⟩
      obtain ⟨sla, sln, slc, hslv⟩ : ∃ ao n cap, slv = .slice ao n cap := by
        obtain ⟨ao, cap, e, _⟩ := a4 wr (Below.refl _ _)
        exact ⟨_, _, _, e⟩
      subst hslv
      clear hOk hjt hbw hcl hit hmem hsc hR1 a1 a2 a3 a4 a5 e2 hjl
      obtain ⟨nw, hnw⟩ : ∃ nw, nw = R1.d.c.workers := ⟨_, rfl⟩
      have hcf := HOk.out.1.ok.k.inv.conf
      have hw0 : 1 ≤ nw ∧ nw ≤ 4 := by rw [hnw]; exact hcf.1
      obtain ⟨wi, hwi⟩ : ∃ wi, wi = (pickI sn nw).toNat := ⟨_, rfl⟩
      have hwe : pickI sn nw = (wi : Int) ∧ wi < nw := by
        have h1 := pickI_lo sn (n := (nw : Int)) (by omega)
        have h2 := pickI_hi sn (n := (nw : Int)) (by omega)
        exact ⟨by omega, by omega⟩
      have HWi : Hid (nw = R1.d.c.workers ∧ wi = (pickI sn R1.d.c.workers).toNat ∧ wi < R1.d.c.workers) := ⟨hnw, by rw [← hnw]; exact hwi, by rw [← hnw]; exact hwe.2⟩
      have HPk : Hid (∀ W : World, Calls Try.prog 30 #[.int .i64 sn, .int .i64 (nw : Int)] W fun e w' => e = .returned (.int .i64 (wi : Int)) ∧ w' = W) := fun W => by
        have := pick_any sn nw W HIt.out.1 (by omega) (by omega)
        rw [hwe.1] at this
        exact this
      have hsl2 : sb < wr.heap.size := Nat.lt_of_lt_of_le hsl HBw.out.2
      have hblw := HN1.out.kp.lt
      have HBox : Hid (KNow o w b (cutO wr o1) (wr.alloc (.cells #[.int .i64 sk, .int .i64 sn, .slice sla sln slc] 50)) R1 v1 ∧ (wr.alloc (.cells #[.int .i64 sk, .int .i64 sn, .slice sla sln slc] 50)).heap[wr.heap.size]? = some (.cells #[.int .i64 sk, .int .i64 sn, .slice sla sln slc] 50 (0, 0)) ∧ Below wr.heap.size wr (wr.alloc (.cells #[.int .i64 sk, .int .i64 sn, .slice sla sln slc] 50))) :=
        ⟨(HN1.out.upd (HN1.out.kp.own (own_cutO _ _)) (own_cutO _ _) (Fr.refl _ _)).below ((Below.refl _ _).alloc (Nat.le_refl _) _), heap_alloc_new _ _, (Below.refl _ _).alloc (Nat.le_refl _) _⟩
      clear hnw hcf hw0 hwi hwe hC
      go_upto_region 4 with fail
      refine name_wp (p := fun X => KNow o w b (cutO wr o1) X R1 v1 ∧ X.heap[wr.heap.size]? = some (.cells #[.int .i64 sk, .int .i64 sn, .slice sla sln slc] 50 (0, 0)) ∧ Below wr.heap.size wr X) HBox.out ?_
      clear HBox
      rintro X hX
      obtain ⟨e0, e1, e2, el⟩ := sc_box hX.2.1
      have c1 : X.cell? ⟨b, 1, none⟩ = some (.int .i64 (R1.c.workers : Int)) := hX.1.kp.cell 1
      rw [HOk.out.1.ok.k.conf, ← HWi.out.1] at c1
      have HX : Hid (KNow o w b (cutO wr o1) X R1 v1 ∧ X.heap[wr.heap.size]? = some (.cells #[.int .i64 sk, .int .i64 sn, .slice sla sln slc] 50 (0, 0)) ∧ Below wr.heap.size wr X) := hX
      clear hX s0 s1 s2 c8
      go_quiet ((go_at_call 30; exact Calls.quiet_of_same (HPk.out _)))
      refine name_x (p := fun X => KNow o w b (cutO wr o1) X R1 v1 ∧ X.heap[wr.heap.size]? = some (.cells #[.int .i64 sk, .int .i64 sn, .slice sla sln slc] 50 (0, 0)) ∧ Below wr.heap.size wr X) ⟨HX.out.1.below (below_drewN (Below.refl _ _) _), HX.out.2.1, below_drewN HX.out.2.2 _⟩ ?_
      clear HX e0 e1 e2 el c1 HPk
      rintro Y hY
      obtain ⟨e0, e1, e2, el⟩ := sc_box hY.2.1
      have HY : Hid (KNow o w b (cutO wr o1) Y R1 v1 ∧ Y.heap[wr.heap.size]? = some (.cells #[.int .i64 sk, .int .i64 sn, .slice sla sln slc] 50 (0, 0)) ∧ Below wr.heap.size wr Y) := hY
      clear hY
      have HRel : Hid (∀ W R2 o2 v2, R2 = R1.stepR ⟨sk, sn, .slice sla sln slc, sxs⟩ → KNow o w b o2 W R2 v2 → PlRel o w b R S (j + 1) W) := fun W R2 o2 v2 e hk => ⟨o2, v2, by rw [HNx.out, ← e]; exact hk⟩
      clear HNx
      by_cases k1 : sk = 1
      · subst k1
        have HMd : Hid (∀ We, Below Y.heap.size Y We → Calls Try.prog 31 #[.slice sla sln slc, .agg #[.int .i64 0, .int .i64 16]] We fun e w' => StepsNew (mkL sxs 0 16) We e w') := fun We hWe =>
          made_any _ sxs 0 16 We HIt.out.2.1 (HIt.out.2.2.1 We ((HY.out.2.2.mono HBw.out.2).trans (hWe.mono (Nat.le_trans HBw.out.2 HY.out.2.2.size)))) HIt.out.2.2.2 (by decide) (by decide) (by decide) (by decide)
        have HSa : Hid (∀ We Wm mv, Below Y.heap.size Y We → Wm.ownsRow We.heap.size 78 4 mv (mkL sxs 0 16).length (stCells (mkL sxs 0 16)) → Below We.heap.size We Wm → Calls Try.prog 28 #[.pointer (some ⟨b, 0, none⟩), mv] Wm fun e w' => e = .returned (.tuple #[]) ∧ PlRel o w b R S (j + 1) w') := fun We Wm mv h1 h2 h3 => by
          have hb : Below Y.heap.size Y Wm := h1.trans (h3.mono h1.size)
          have k1 : KNow o w b (grow Y (cutO wr o1) (6 + 3 * R1.tasks.length)) Wm R1 v1 := (HY.out.1.upd (HY.out.1.kp.own (own_grow Y _ _)) (own_grow Y _ _) (Fr.refl _ _)).below hb
          refine (say_k k1.kp HOk.out.1.ok HOk.out.2 (mkL_job sxs) ⟨owns_base h2 (Nat.zero_le _), fun k hk => grow_new (Nat.le_trans h1.size (owns_ge h2 hk))⟩).mono ?_
          rintro e Z ⟨rfl, hs⟩
          obtain ⟨o2, v2, hk2⟩ := k1.stp hs
          exact ⟨rfl, HRel.out Z _ o2 v2 rfl hk2⟩
        go_wp2
        go_region_with (first | (go_at_call 32; refine (every_any _).mono ?_; rintro e We ⟨rfl, hbe⟩; have HBe : Hid (Below Y.heap.size Y We) := ((Below.refl _ Y).drew).trans hbe; have e3 := (HBe.out.cell (p := ⟨wr.heap.size, 2, none⟩) el).trans e2; clear hbe) | (go_at_call 31; refine (HMd.out _ HBe.out).mono ?_; rintro e Wm ⟨mv, rfl, hrow, hbm⟩; obtain ⟨ma, mc, rfl⟩ := owns_form hrow; have HSy := HSa.out _ _ _ HBe.out hrow hbm; clear hrow hbm) | (go_at_call 28; refine HSy.mono ?_; rintro e Z ⟨rfl, hz⟩; have HZ : Hid (PlRel o w b R S (j + 1) Z) := hz; clear hz))
        all_goals
          go_wp2
          go_roundw
          case rel => exact ⟨j + 1, by omega, by go_num, HZ.out⟩
          case measure => simp [intOf]; omega
      · by_cases k2 : sk = 2
        · subst k2
          have hP := pick_k HY.out.1.kp HOk.out.1.ok HOk.out.2 (i := wi) HWi.out.2.2
          unfold ptrV at hP
          go_wp2_with fail
          refine hP.mono ?_
          clear hP
          rintro e Z ⟨rfl, hs⟩
          have HZ : Hid (PlRel o w b R S (j + 1) Z) := by
            obtain ⟨o2, v2, hk2⟩ := HY.out.1.stp hs
            exact HRel.out Z _ o2 v2 (by rw [HWi.out.2.1]; rfl) hk2
          clear hs
          go_wp2
          go_roundw
          case rel => exact ⟨j + 1, by omega, by go_num, HZ.out⟩
          case measure => simp [intOf]; omega
        · by_cases k3 : sk = 3
          · subst k3
            have hP := kill_k HY.out.1.kp HOk.out.1.ok HOk.out.2 (i := wi) HWi.out.2.2
            unfold ptrV at hP
            go_wp2_with fail
            refine hP.mono ?_
            clear hP
            rintro e Z ⟨rfl, hs⟩
            have HZ : Hid (PlRel o w b R S (j + 1) Z) := by
              obtain ⟨o2, v2, hk2⟩ := HY.out.1.stp hs
              exact HRel.out Z _ o2 v2 (by rw [HWi.out.2.1]; rfl) hk2
            clear hs
            go_wp2
            go_roundw
            case rel => exact ⟨j + 1, by omega, by go_num, HZ.out⟩
            case measure => simp [intOf]; omega
          · by_cases k4 : sk = 4
            · subst k4
              obtain ⟨ta, tc, htv⟩ := owns_form (HY.out.1.kp.tasks nX).1
              have c5 : Y.cell? ⟨b, 5, none⟩ = some v1.tv := HY.out.1.kp.cell 5
              rw [htv] at c5
              obtain ⟨tl, htl⟩ : ∃ tl, tl = R1.tasks.length := ⟨_, rfl⟩
              have ht1 : 1 ≤ tl ∧ tl ≤ 900000000 := by rw [htl]; exact ⟨HOk.out.1.one, (HOk.out.1.ok.sm HOk.out.2).tasks⟩
              obtain ⟨ci, hci⟩ : ∃ ci, ci = (pickI sn tl).toNat := ⟨_, rfl⟩
              have hce : pickI sn tl = (ci : Int) ∧ ci < tl := by
                have h1 := pickI_lo sn (n := (tl : Int)) (by omega)
                have h2 := pickI_hi sn (n := (tl : Int)) (by omega)
                exact ⟨by omega, by omega⟩
              have HPc : Hid (∀ W : World, Calls Try.prog 30 #[.int .i64 sn, .int .i64 (tl : Int)] W fun e w' => e = .returned (.int .i64 (ci : Int)) ∧ w' = W) := fun W => by
                have := pick_any sn tl W HIt.out.1 (by omega) (by omega)
                rw [hce.1] at this
                exact this
              have hC := cancel_k (HY.out.1.kp.below ((Below.refl _ Y).drew)) HOk.out.1.ok HOk.out.2 (n := 1 + ci) ⟨by omega, by have := HOk.out.1.ok.k.len; omega⟩
              have HSt : Hid (R1.cancelR (1 + ci) = R1.stepR ⟨4, sn, .slice sla sln slc, sxs⟩) := by
                show _ = R1.cancelR (1 + pickI sn R1.tasks.length).toNat
                rw [← htl, hce.1]
                congr 1
              obtain ⟨z, hz⟩ : ∃ z : Int, z = ((1 + ci : Nat) : Int) := ⟨_, rfl⟩
              rw [← hz] at hC
              have hwz : IntKind.i64.wrap (1 + (ci : Int)) = z := by rw [IntKind.wrap_i64]; omega
              rw [← htl] at c5
              unfold ptrV at hC
              clear htv htl ht1 hci hce hz
              go_wp2
              refine wp_tail 10 (by kernel_rfl) ?_
              simp only [List.take_succ_cons, List.take_zero, List.drop_succ_cons, List.drop_zero]
              still_step
              still_step
              still_step
              still_step
              still_step
              still_step
              still_step
              still_step
              still_call (HPc.out _)
              still_step
              refine wpStill_nil ?_
              go_wp2_with fail
              refine hC.mono ?_
              clear hC
              rintro e Z ⟨rfl, hs⟩
              have HZ : Hid (PlRel o w b R S (j + 1) Z) := by
                obtain ⟨o2, v2, hk2⟩ := (HY.out.1.below ((Below.refl _ Y).drew)).stp hs
                exact HRel.out Z _ o2 v2 HSt.out hk2
              clear hs
              go_wp2
              go_roundw
              case rel => exact ⟨j + 1, by omega, by go_num, HZ.out⟩
              case measure => simp [intOf]; omega
            · have HZ : Hid (PlRel o w b R S (j + 1) Y) := HRel.out Y R1 _ v1 (by simp [RM.stepR, k1, k2, k3, k4]) HY.out.1
              go_wp2
              go_roundw
              case rel => exact ⟨j + 1, by omega, by go_num, HZ.out⟩
              case measure => simp [intOf]; omega
    · obtain rfl : j = n := by omega
      have HD : Hid (KStp o w b (R.playR S) wr) := by
        have := HN1.out.done
        rw [HN.out, List.take_length] at this
        exact this
      go_wp2
      go_end0
      exact ⟨rfl, HD.out⟩
end
end Go.Proofs.Ytlbmcdoldnajoab
