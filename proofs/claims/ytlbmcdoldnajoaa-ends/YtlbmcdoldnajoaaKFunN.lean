import Derived.Test.YtlbmcdoldnajoaaKFunM

namespace Go.Proofs.Ytlbmcdoldnajoaa
open Go.RowKit
/-- behind a Poll in Ends: the outcome's box, its list -/
structure EnX (o : Nat → Option Nat) (Z : World) (b : Nat) (R : RM) (o1 : Nat → Option Nat) (v1 : KV) (ob : Nat) (st : Int) (tv : Value) (tl : List Int) (tr : Int) (X : World) : Prop where
  now : KNow o Z b o1 X R v1
  box : X.heap[ob]? = some (.cells #[.int .i64 st, tv, .int .i64 tr] 44 (0, 0))
  out : o1 ob = none
  told : X.ownsRow 0 3 1 tv tl.length (tl.map (Value.int .i64))
  tout : ∀ k, tv.ownBlock = some k → o1 k = none
theorem EnX.below {o : Nat → Option Nat} {Z : World} {b : Nat} {R : RM} {o1 : Nat → Option Nat} {v1 : KV} {ob : Nat} {st : Int} {tv : Value} {tl : List Int} {tr : Int} {X Y : World} (h : EnX o Z b R o1 v1 ob st tv tl tr X) (hb : Below X.heap.size X Y) : EnX o Z b R o1 v1 ob st tv tl tr Y :=
  ⟨h.now.below hb, (hb.block _ (blk_lt h.box)).trans h.box, h.out, owns_keep h.told hb, h.tout⟩
theorem EnX.desk {o : Nat → Option Nat} {Z : World} {b : Nat} {R : RM} {o1 : Nat → Option Nat} {v1 : KV} {ob : Nat} {st : Int} {tv : Value} {tl : List Int} {tr : Int} {X Y : World} (h : EnX o Z b R o1 v1 ob st tv tl tr X) (hd : PDd (fun k => grow X o1 4 k = some 4) Y R.xb R.d) (hf : Fr (fun k => grow X o1 4 k = some 4) X Y) :
    EnX o Z b R (grow X o1 4) v1 ob st tv tl tr Y := by
  have hs := h.now.kp.deskStep hd hf
  have hf2 : Fr (fun k => o1 k = some 4) X Y := hf.mono (fun k hk e => by rw [own_grow X o1 4 k hk] at e; exact e)
  refine ⟨h.now.upd hs.1 (own_grow _ _ _) hs.2, hf2.blk h.box (fun e => by rw [h.out] at e; cases e), by rw [own_grow X o1 4 ob (blk_lt h.box)]; exact h.out, owns_fr h.told hf2 (fun k hk e => by rw [h.tout k hk] at e; cases e), fun k hk => by rw [own_grow X o1 4 k (owns_lt h.told hk).2]; exact h.tout k hk⟩
/-- what holds of a job behind the end of all -/
theorem ends_job {N : Nat} {R : RM} (h : KOk N R) (ho : openN R.d = 0) {n : Nat} (hn : R.d.Has n) :
    (R.d.job n).tries ≤ R.c.patience + 2 + (R.tk n).kills ∧ 2 < (R.d.job n).state ∧ ((R.tk n).gone = true → (R.d.job n).state = 6 ∧ (R.d.job n).told = []) ∧ ((R.tk n).gone = false → (R.d.job n).state ≠ 6) := by
  have h1 := h.k.tries n hn
  have h2 := h.k.fails n hn
  have h3 := h.k.urg.few n hn
  have h4 := open_zero ho hn
  have h5 := h.k.gone n hn
  rw [h.k.conf]
  refine ⟨by split at h1 <;> omega, h4, fun e => ?_, fun e => ?_⟩
  · rw [e] at h5
    have h6 : (R.d.job n).state = 6 := of_decide_eq_true h5.symm
    exact ⟨h6, h.k.inv.quiet n hn (Or.inr h6)⟩
  · rw [e] at h5
    exact of_decide_eq_false h5.symm
set_option maxRecDepth 100000 in
set_option maxHeartbeats 2000000 in
theorem ends_walk (a b c d : Int) (w : World) (ha : i64B a) (hb : i64B b) (hc : i64B c) (hd : i64B d) {S : List Sc} (hN : S.length ≤ 800000000) {sv : Value} (hs : ScrAt w.heap.size w sv S) :
    Calls Try.prog 12 #[confV a b c d, sv] w fun e w' => e = .returned (.bool true) ∧ Below w.heap.size w w' := by
  have hbw : Below w.heap.size w (w.alloc (.cells #[.int .i64 a, .int .i64 b, .int .i64 c, .int .i64 d] 34)) := (Below.refl _ _).alloc (Nat.le_refl _) _
  have HPl : Hid (∀ W, W = w.alloc (.cells #[.int .i64 a, .int .i64 b, .int .i64 c, .int .i64 d] 34) → Calls Try.prog 40 #[.agg #[.int .i64 a, .int .i64 b, .int .i64 c, .int .i64 d], sv] W fun e w' => PlayedP (fitM a b c d) (1 + S.length) W e w') := fun W hW => by
    subst hW
    have h2 : ScrAt (w.alloc (.cells #[.int .i64 a, .int .i64 b, .int .i64 c, .int .i64 d] 34)).heap.size (w.alloc (.cells #[.int .i64 a, .int .i64 b, .int .i64 c, .int .i64 d] 34)) sv S := (hs.below hbw).more hbw.size
    exact played_k a b c d _ ha hb hc hd hN h2
  obtain ⟨⟨ao, cap, hv, _⟩, _⟩ := hs
  obtain ⟨n, hn⟩ : ∃ n, n = S.length := ⟨_, rfl⟩
  rw [← hn] at hv
  subst hv
  have HB : Hid (Below w.heap.size w (w.alloc (.cells #[.int .i64 a, .int .i64 b, .int .i64 c, .int .i64 d] 34)) ∧ 1 + S.length ≤ 900000000) := ⟨hbw, by omega⟩
  unfold confV
  clear ha hb hc hd hN hn hbw
  go_enter Try.func12, Try.ntmps12
  go_wp2_with fail
  refine (HPl.out _ rfl).mono ?_
  clear HPl
  rintro e Z ⟨rb, o, v, R, rfl, hkp, hok, hop, _, hoo, hb⟩
  have HZ : Hid (KP o Z rb R v ∧ KOk (1 + S.length) R ∧ openN R.d = 0 ∧ (∀ k, o k ≠ none → w.heap.size ≤ k) ∧ Below w.heap.size w Z) := ⟨hkp, hok, hop, fun k hk => Nat.le_trans HB.out.1.size (hoo k hk), HB.out.1.trans (hb.mono HB.out.1.size)⟩
  obtain ⟨T, hT⟩ : ∃ T, T = R.tasks.length := ⟨_, rfl⟩
  have HT : Hid (T = R.tasks.length ∧ T ≤ 900000000) := ⟨hT, by rw [hT]; exact (hok.sm HB.out.2).tasks⟩
  have hT9 : T ≤ 900000000 := HT.out.2
  unfold ptrV
  clear hkp hok hop hoo hb hT
  go_wp2
  go_loopw [6] (fun x wr => ∃ k : Nat, k ≤ T ∧ x = .int .i64 ((k : Int) + 1) ∧ ∃ o1 v1, KNow o Z rb o1 wr R v1) (fun x _ => T + 1 - (intOf x).toNat)
  case atStart => exact ⟨0, Nat.zero_le _, rfl, o, v, KNow.start HZ.out.1⟩
  case round =>
    obtain ⟨k, hk, rfl, o1, v1, hkn⟩ := hrel
    have HK : Hid (KNow o Z rb o1 wr R v1) := hkn
    obtain ⟨ta, tc, htv⟩ := owns_form (hkn.kp.tasks nX).1
    have c5 : wr.cell? ⟨rb, 5, none⟩ = some v1.tv := hkn.kp.cell 5
    rw [htv, ← HT.out.1] at c5
    have c0 : wr.cell? ⟨rb, 0, none⟩ = some (.pointer (some ⟨R.xb, 0, none⟩)) := hkn.kp.cell 0
    clear hkn htv
    by_cases hlt : k < T
    · have m1 : (k : Int) + 1 ≤ (T : Int) := by omega
      have hhas : R.d.Has (k + 1) := ⟨by omega, by rw [← HZ.out.2.1.k.len, ← HT.out.1]; omega⟩
      have hjl : k < R.d.jobs.length := by have := hhas.2; omega
      obtain ⟨f1, f2, f3, f4⟩ := ends_job HZ.out.2.1 HZ.out.2.2.1 hhas
      have hpe := poll_yes (d := R.d) (i := k) hjl
      have e0 : R.d.jobs.getD k jobM0 = R.d.job (k + 1) := rfl
      rw [e0] at hpe
      have hkl : (R.tk (k + 1)).kills ≤ 900000000 := Nat.le_trans (HZ.out.2.1.kills _) HB.out.2
      have hcp : R.c.patience ≤ 5 := by rw [HZ.out.2.1.k.conf]; exact HZ.out.2.1.k.inv.conf.2.2.2
      have htr9 : (R.d.job (k + 1)).tries ≤ 999999999 := by omega
      have HPo : Hid (∀ (o2 : Nat → Option Nat) (W : World) (v2 : KV), KP o2 W rb R v2 → Calls Try.prog 37 #[.pointer (some ⟨R.xb, 0, none⟩), .int .i64 ((k : Int) + 1)] W fun e w' => PolledP R.d ((k : Int) + 1) W e w') := fun o2 W v2 h2 => kitP.poll (fun k => o2 k = some 4) W R.xb R.d _ (h2.desk nX) (by rw [← HZ.out.2.1.k.len, ← HT.out.1]; omega) (told_le HZ.out.2.1.k.inv)
      have hcan : (R.d.cancel ((k + 1 : Nat) : Int)).1 = R.d ∧ (R.d.cancel ((k + 1 : Nat) : Int)).2 = 9 := ⟨cancel_none hhas f2, by rw [cancel_err hhas, if_pos f2]⟩
      have HCa : Hid (∀ (o2 : Nat → Option Nat) (W : World) (v2 : KV), KP o2 W rb R v2 → Calls Try.prog 41 #[.pointer (some ⟨R.xb, 0, none⟩), .int .i64 ((k : Int) + 1)] W fun e w' => PStepD (fun k => grow W o2 4 k = some 4) W R.xb R.d (.int .i64 9) e w') := fun o2 W v2 h2 => by
        have := pcancel_ok (fun k => grow W o2 4 k = some 4) W R.xb R.d ((k + 1 : Nat) : Int) h2.deskAt (HZ.out.2.1.ask HB.out.2) (fun k hk => grow_new hk)
        rw [hcan.1, hcan.2] at this
        exact this
      have HJ : Hid (k < R.tasks.length) := by show _ < _; rw [← HT.out.1]; exact hlt
      have HPE : Hid (R.d.poll ((k : Int) + 1) = ((R.d.job (k + 1)).state, (R.d.job (k + 1)).told, ((R.d.job (k + 1)).tries : Int), 0)) := hpe
      have HTl : Hid ((R.d.job (k + 1)).told.length ≤ 1000) := told_le HZ.out.2.1.k.inv k hjl
      obtain ⟨st, hst⟩ : ∃ st, st = (R.d.job (k + 1)).state := ⟨_, rfl⟩
      obtain ⟨tl, htl⟩ : ∃ tl, tl = (R.d.job (k + 1)).told := ⟨_, rfl⟩
      obtain ⟨tr, htr⟩ : ∃ tr, tr = (R.d.job (k + 1)).tries := ⟨_, rfl⟩
      obtain ⟨kl, hkl'⟩ : ∃ kl, kl = (R.tk (k + 1)).kills := ⟨_, rfl⟩
      obtain ⟨gn, hgn⟩ : ∃ gn, gn = (R.tk (k + 1)).gone := ⟨_, rfl⟩
      obtain ⟨pa, hpa⟩ : ∃ pa, pa = R.c.patience := ⟨_, rfl⟩
      rw [← hst, ← htl, ← htr] at HPE
      rw [← htl] at HTl
      rw [← hst] at f2 f3 f4
      rw [← htl] at f3
      rw [← htr, ← hpa, ← hkl'] at f1
      rw [← htr] at htr9
      rw [← hgn] at f3 f4
      rw [← hkl'] at hkl
      rw [← hpa] at hcp
      have HTk : Hid (kl = (R.tk (k + 1)).kills ∧ gn = (R.tk (k + 1)).gone ∧ pa = R.c.patience) := ⟨hkl', hgn, hpa⟩
      have HF : Hid ((gn = true → st = 6 ∧ tl = []) ∧ (gn = false → st ≠ 6)) := ⟨f3, f4⟩
      have hwr : IntKind.i64.wrap ((k : Int) + 1 - 1) = (k : Int) := by rw [IntKind.wrap_i64]; omega
      have mk1 : (k : Int) < (T : Int) := by omega
      obtain ⟨p2, hp2⟩ : ∃ p2 : Int, p2 = (pa : Int) + 2 := ⟨_, rfl⟩
      have hw1 : IntKind.i64.wrap ((pa : Int) + 2) = p2 := by rw [IntKind.wrap_i64]; omega
      obtain ⟨p3, hp3⟩ : ∃ p3 : Int, p3 = p2 + (kl : Int) := ⟨_, rfl⟩
      have hw2 : IntKind.i64.wrap (p2 + (kl : Int)) = p3 := by rw [IntKind.wrap_i64]; omega
      have m4 : ¬ p3 < (tr : Int) := by omega
      have hP := HPo.out o1 wr v1 HK.out.kp
      clear hhas hjl hpe e0 hcan f3 f4 hst htl htr hkl' hgn hpa hp2 hp3 hcp f1
      go_wp2_with fail
      refine hP.mono ?_
      clear hP c0
      rintro e W1 ⟨tv, rfl, hrow, hb1⟩
      rw [HPE.out] at hrow ⊢
      obtain ⟨tva, tvc, rfl⟩ := owns_form hrow
      have HX : Hid (EnX o Z rb R (cutO wr o1) v1 W1.heap.size st (.slice tva tl.length tvc) tl tr (W1.alloc (.cells #[.int .i64 st, .slice tva tl.length tvc, .int .i64 (tr : Int)] 44))) :=
        ⟨((HK.out.upd (HK.out.kp.own (own_cutO _ _)) (own_cutO _ _) (Fr.refl _ _)).below hb1).below ((Below.refl _ _).alloc (Nat.le_refl _) _), heap_alloc_new _ _, cutO_new hb1.size, owns_keep (owns_base hrow (Nat.zero_le _)) ((Below.refl _ _).alloc (Nat.le_refl _) _), fun k hk => cutO_new (owns_ge hrow hk)⟩
      have HBz : Hid (Z.heap.size ≤ wr.heap.size) := HK.out.fr.size
      simp only
      clear hrow hb1 c5
      obtain ⟨L, hL⟩ : ∃ L, L = tl.length := ⟨_, rfl⟩
      have HL : Hid (L = tl.length) := hL
      rw [← hL] at HX HTl ⊢
      clear hL
      go_upto_region 8 with fail
      refine name_wp (p := fun X => EnX o Z rb R (cutO wr o1) v1 W1.heap.size st (.slice tva L tvc) tl tr X) HX.out ?_
      clear HX
      rintro X hX
      generalize W1.heap.size = ob at hX ⊢
      clear W1
      have HX : Hid (EnX o Z rb R (cutO wr o1) v1 ob st (.slice tva L tvc) tl tr X) := hX
      generalize cutO wr o1 = o2 at hX HX
      obtain ⟨b0, b1, b2, _, bl⟩ := out_box hX.box
      obtain ⟨gt, tcap, tb, htp⟩ := hX.now.kp.tkPl (j := k) HJ.out
      have c5 := htp.c5
      rw [← HT.out.1] at c5
      have cp := htp.cell
      have ck : X.cell? ⟨tb, 1, none⟩ = some (.int .i64 (kl : Int)) := by rw [HTk.out.1]; exact htp.tcell 1
      have cg : X.cell? ⟨tb, 3, none⟩ = some (.bool gn) := by rw [HTk.out.2.1]; exact htp.tcell 3
      have c4 : X.cell? ⟨rb, 4, none⟩ = some (.int .i64 (pa : Int)) := by rw [HTk.out.2.2]; exact hX.now.kp.cell 4
      have c0 : X.cell? ⟨rb, 0, none⟩ = some (.pointer (some ⟨R.xb, 0, none⟩)) := hX.now.kp.cell 0
      have HEnd : Hid (∀ Y, EnX o Z rb R o2 v1 ob st (.slice tva L tvc) tl tr Y → Calls Try.prog 41 #[.pointer (some ⟨R.xb, 0, none⟩), .int .i64 ((k : Int) + 1)] Y fun e w' => e = .returned (.int .i64 9) ∧ EnX o Z rb R (grow Y o2 4) v1 ob st (.slice tva L tvc) tl tr w') := fun Y hY => by
        refine (HCa.out o2 Y v1 hY.now.kp).mono ?_
        rintro e W2 ⟨rfl, hd, hf⟩
        exact ⟨rfl, hY.desk hd hf⟩
      clear hX htp HCa
      go_wp2
      go_quiet (fail)
      go_wp2
      cases gn
      · have n6 : ¬ st = 6 := HF.out.2 rfl
        have n3 : ¬ st < 3 := by omega
        go_quiet (fail)
        go_wp2_with fail
        refine name_calls (p := fun Y => EnX o Z rb R o2 v1 ob st (.slice tva L tvc) tl tr Y) (HX.out.below (below_drewN (Below.refl _ _) _)) ?_
        clear HX b0 b1 b2 bl c5 cp ck cg c4 c0
        rintro Y hY
        refine (HEnd.out Y hY).mono ?_
        clear HEnd
        rintro e W2 ⟨rfl, hW2⟩
        generalize grow Y o2 4 = o3 at hW2
        clear hY
        have HW2 : Hid (EnX o Z rb R o3 v1 ob st (.slice tva L tvc) tl tr W2) := hW2
        have c0 : W2.cell? ⟨rb, 0, none⟩ = some (.pointer (some ⟨R.xb, 0, none⟩)) := hW2.now.kp.cell 0
        have hP := HPo.out o3 W2 v1 hW2.now.kp
        clear hW2
        go_wp2_with fail
        refine hP.mono ?_
        clear hP c0
        rintro e W3 ⟨pv, rfl, hrow, hb3⟩
        rw [HPE.out] at hrow ⊢
        simp only
        obtain ⟨pva, pvc, rfl⟩ := owns_form hrow
        rw [show (st, tl, (tr : Int), (0 : Int)).2.1.length = L from HL.out.symm] at hrow ⊢
        have HW3 : Hid (EnX o Z rb R o3 v1 ob st (.slice tva L tvc) tl tr W3 ∧ W3.ownsRow 0 3 1 (.slice pva L pvc) L (tl.map (Value.int .i64))) := ⟨HW2.out.below hb3, owns_base hrow (Nat.zero_le _)⟩
        obtain ⟨b0, b1, b2, _, bl⟩ := out_box HW3.out.1.box
        clear hrow hb3 HW2
        go_wp2_with fail
        refine name_calls (p := fun V => EnX o Z rb R o3 v1 ob st (.slice tva L tvc) tl tr V ∧ V.ownsRow 0 3 1 (.slice pva L pvc) L (tl.map (Value.int .i64)) ∧ V.heap[W3.heap.size]? = some (.cells #[.int .i64 st, .slice pva L pvc, .int .i64 (tr : Int)] 44 (0, 0))) ⟨HW3.out.1.below ((Below.refl _ _).alloc (Nat.le_refl _) _), owns_keep HW3.out.2 ((Below.refl _ _).alloc (Nat.le_refl _) _), heap_alloc_new _ _⟩ ?_
        clear HW3 b0 b1 b2 bl
        rintro V hV
        generalize W3.heap.size = pb at hV ⊢
        have hr2 := hV.2.1
        rw [HL.out] at hr2
        have hr1 := hV.1.told
        rw [HL.out] at hr1
        have hSO := pivotkeep_sameOutcome_any st tr st tr _ _ tl tl V (intsV_own hr1 (by have := HTl.out; have := HL.out; omega)) (intsV_own hr2 (by have := HTl.out; have := HL.out; omega))
        rw [← HL.out] at hSO
        refine hSO.mono ?_
        clear hSO hr1 hr2
        rintro e V2 ⟨rfl, hb⟩
        simp only [decide_true, Bool.and_self]
        have hV2 := hV.1.below hb
        obtain ⟨_, _, b2, _, bl⟩ := out_box hV2.box
        obtain ⟨_, _, q2, _, ql⟩ := out_box ((hb.block _ (blk_lt hV.2.2)).trans hV.2.2)
        have HN2 : Hid (∃ o1 v1, KNow o Z rb o1 V2 R v1) := ⟨o3, v1, hV2.now⟩
        clear hV hb hV2
        go_wp2
        go_roundw
        case rel => exact ⟨k + 1, by omega, by go_num, HN2.out⟩
        case measure => simp [intOf]; omega
      · obtain ⟨n6, n0⟩ := HF.out.1 rfl
        subst n6
        have n7 : L = 0 := by rw [HL.out, n0]; rfl
        have HL0 : Hid (L = 0) := n7
        have n8 : ¬ (0 : Int) < (L : Int) := by omega
        clear n0
        rw [n7] at b1
        go_quiet (fail)
        clear n7
        go_wp2_with fail
        refine name_calls (p := fun Y => EnX o Z rb R o2 v1 ob 6 (.slice tva L tvc) tl tr Y) (HX.out.below (below_drewN (Below.refl _ _) _)) ?_
        clear HX b0 b1 b2 bl c5 cp ck cg c4 c0
        rintro Y hY
        refine (HEnd.out Y hY).mono ?_
        clear HEnd
        rintro e W2 ⟨rfl, hW2⟩
        generalize grow Y o2 4 = o3 at hW2
        clear hY
        have HW2 : Hid (EnX o Z rb R o3 v1 ob 6 (.slice tva L tvc) tl tr W2) := hW2
        have c0 : W2.cell? ⟨rb, 0, none⟩ = some (.pointer (some ⟨R.xb, 0, none⟩)) := hW2.now.kp.cell 0
        have hP := HPo.out o3 W2 v1 hW2.now.kp
        clear hW2
        go_wp2_with fail
        refine hP.mono ?_
        clear hP c0
        rintro e W3 ⟨pv, rfl, hrow, hb3⟩
        rw [HPE.out] at hrow ⊢
        simp only
        obtain ⟨pva, pvc, rfl⟩ := owns_form hrow
        rw [show (6, tl, (tr : Int), (0 : Int)).2.1.length = L from HL.out.symm] at hrow ⊢
        have HW3 : Hid (EnX o Z rb R o3 v1 ob 6 (.slice tva L tvc) tl tr W3 ∧ W3.ownsRow 0 3 1 (.slice pva L pvc) L (tl.map (Value.int .i64))) := ⟨HW2.out.below hb3, owns_base hrow (Nat.zero_le _)⟩
        obtain ⟨b0, b1, b2, _, bl⟩ := out_box HW3.out.1.box
        clear hrow hb3 HW2
        go_wp2_with fail
        refine name_calls (p := fun V => EnX o Z rb R o3 v1 ob 6 (.slice tva L tvc) tl tr V ∧ V.ownsRow 0 3 1 (.slice pva L pvc) L (tl.map (Value.int .i64)) ∧ V.heap[W3.heap.size]? = some (.cells #[.int .i64 6, .slice pva L pvc, .int .i64 (tr : Int)] 44 (0, 0))) ⟨HW3.out.1.below ((Below.refl _ _).alloc (Nat.le_refl _) _), owns_keep HW3.out.2 ((Below.refl _ _).alloc (Nat.le_refl _) _), heap_alloc_new _ _⟩ ?_
        clear HW3 b0 b1 b2 bl
        rintro V hV
        generalize W3.heap.size = pb at hV ⊢
        have hr2 := hV.2.1
        rw [HL.out] at hr2
        have hr1 := hV.1.told
        rw [HL.out] at hr1
        have hSO := pivotkeep_sameOutcome_any 6 tr 6 tr _ _ tl tl V (intsV_own hr1 (by have := HTl.out; have := HL.out; omega)) (intsV_own hr2 (by have := HTl.out; have := HL.out; omega))
        rw [← HL.out] at hSO
        refine hSO.mono ?_
        clear hSO hr1 hr2
        rintro e V2 ⟨rfl, hb⟩
        simp only [decide_true, Bool.and_self]
        have hV2 := hV.1.below hb
        obtain ⟨_, _, b2, _, bl⟩ := out_box hV2.box
        obtain ⟨_, _, q2, _, ql⟩ := out_box ((hb.block _ (blk_lt hV.2.2)).trans hV.2.2)
        have HN2 : Hid (∃ o1 v1, KNow o Z rb o1 V2 R v1) := ⟨o3, v1, hV2.now⟩
        clear hV hb hV2
        go_wp2
        go_roundw
        case rel => exact ⟨k + 1, by omega, by go_num, HN2.out⟩
        case measure => simp [intOf]; omega
    · obtain rfl : k = T := by omega
      have m1 : ¬ (k : Int) + 1 ≤ (k : Int) := by omega
      have HE : Hid (Below w.heap.size w wr) := HZ.out.2.2.2.2.trans (HK.out.fr.below (fun k hk => HZ.out.2.2.2.1 k hk.some) HZ.out.2.2.2.2.size)
      go_wp2
      go_ret
      exact ⟨rfl, HE.out⟩
end Go.Proofs.Ytlbmcdoldnajoaa
