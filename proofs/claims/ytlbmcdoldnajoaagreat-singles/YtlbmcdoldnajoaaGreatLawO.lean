import Derived.Test.YtlbmcdoldnajoaaGreatChecked1
import Derived.Deep.RegionHeld3
set_option maxRecDepth 100000
set_option maxHeartbeats 1000000
namespace Go.Proofs.YtlbmcdoldnajoaaGreat
open Go.RowKit
def UR (W0 : World) (pb : Nat) (one : Bool) (j : Nat) (wr : World) : Prop := ∃ own dv iv pv vs ps ds, LA kitP DU W0.heap.size own wr pb dv one iv pv vs ps ds ∧ Below W0.heap.size W0 wr ∧ (0 < ds.length ∧ ds.length ≤ j + 1) ∧ pollsN ds ds.length ≤ 3 * j + 2 ∧ (∀ i, i < ds.length → Bd (64 * j) (ds.getD i dp0).d) ∧ vs.length ≤ 4 * j ∧ ps.length ≤ 4 * j
theorem UR.below {W0 : World} {pb : Nat} {one : Bool} {j : Nat} {W W' : World} (h : UR W0 pb one j W) (hb : Below W.heap.size W W') : UR W0 pb one j W' := by
  obtain ⟨own, dv, iv, pv, vs, ps, ds, h1, h2, h3⟩ := h
  exact ⟨own, dv, iv, pv, vs, ps, ds, h1.below hb, h2.trans (hb.mono h2.size), h3⟩
theorem UR.more {W0 : World} {pb : Nat} {one : Bool} {j : Nat} {W : World} (h : UR W0 pb one j W) : UR W0 pb one (j + 1) W := by
  obtain ⟨own, dv, iv, pv, vs, ps, ds, h1, h2, h3, h4, h5, h6, h7⟩ := h
  exact ⟨own, dv, iv, pv, vs, ps, ds, h1, h2, by omega, by omega, fun i hi => (h5 i hi).mono (by omega), by omega, by omega⟩
theorem pollsN_app (ds : List DP) (t : DP) : ∀ k, k ≤ ds.length → pollsN (ds ++ [t]) k = pollsN ds k
  | 0, _ => rfl
  | k + 1, h => by
    have e : (ds ++ [t]).getD k dp0 = ds.getD k dp0 := by simp [List.getD, List.getElem?_append_left (show k < ds.length by omega)]
    show pollsN (ds ++ [t]) k + _ = pollsN ds k + _
    rw [pollsN_app ds t k (by omega), e]
theorem pollsN_snoc (ds : List DP) (t : DP) : pollsN (ds ++ [t]) (ds ++ [t]).length = pollsN ds ds.length + (t.d.jobs.length + 2) := by
  rw [List.length_append, List.length_singleton]
  show pollsN (ds ++ [t]) ds.length + _ = _
  rw [pollsN_app ds t _ (Nat.le_refl _)]
  simp [List.getD]
theorem pollsN_set {ds : List DP} {i m : Nat} {t : DP} (ht : t.d.jobs.length ≤ (ds.getD i dp0).d.jobs.length + m) : ∀ k, k ≤ ds.length → pollsN (ds.set i t) k ≤ pollsN ds k + (if i < k then m else 0)
  | 0, _ => Nat.zero_le _
  | k + 1, h => by
    have ih := pollsN_set ht k (by omega)
    have e1 : pollsN (ds.set i t) (k + 1) = pollsN (ds.set i t) k + (((ds.set i t).getD k dp0).d.jobs.length + 2) := rfl
    have e2 : pollsN ds (k + 1) = pollsN ds k + ((ds.getD k dp0).d.jobs.length + 2) := rfl
    rw [e1, e2]
    by_cases e : k = i
    · subst e
      rw [getD_set_dp (by omega)]
      rw [if_neg (Nat.lt_irrefl _)] at ih
      rw [if_pos (Nat.lt_succ_self _)]
      omega
    · rw [getD_set_dpn e]
      by_cases e3 : i < k
      · rw [if_pos e3] at ih
        rw [if_pos (by omega)]
        omega
      · rw [if_neg e3] at ih
        rw [if_neg (by omega)]
        omega
theorem pickI_in (c : Int) {n : Int} (h : 0 < n) : 0 ≤ pickI c n ∧ pickI c n < n := by
  unfold pickI
  split
  · exact ⟨Int.emod_nonneg _ (by omega), Int.emod_lt_of_pos _ h⟩
  · exact ⟨Int.emod_nonneg _ (by omega), Int.emod_lt_of_pos _ h⟩
structure OpOK (W0 : World) (o : OpM) : Prop where
  dk : i64B o.desk
  n : i64B o.n
  sv : StepsV W0 o.sv o.l
  sl : o.l.length * 32 ≤ 140737488351232
  mv : PairsV W0 W0.heap.size o.pv o.ml
  ml : o.ml.length * 16 ≤ 140737488351232
theorem failedJ_len (d : DeskM) (n p : Nat) : (d.failedJ n p).1.jobs.length = d.jobs.length := by
  unfold DeskM.failedJ
  simp only
  split <;> simp [DeskM.setJob]
theorem looked_len (d : DeskM) (i : Nat) (x : Mo) (st : Int) : (d.looked i x st).1.jobs.length = d.jobs.length := by
  unfold DeskM.looked
  simp only
  generalize (if st = 3 then x.puts else fun _ => none) = pf
  split
  · exact failedJ_len _ _ _
  · simp [DeskM.setJob]
theorem goes_len (d : DeskM) (i : Nat) : (d.goes i).1.jobs.length = d.jobs.length := by
  unfold DeskM.goes
  simp only
  split
  · exact looked_len _ _ _ _
  · split
    · exact looked_len _ _ _ _
    · split
      · exact looked_len _ _ _ _
      · rfl
theorem taken_len (d : DeskM) (i : Nat) : (d.taken i).1.jobs.length = d.jobs.length := by
  unfold DeskM.taken
  simp only
  split
  · rfl
  · simp [DeskM.setJob]
theorem pick_len (d : DeskM) (i : Int) : (d.pick i).1.jobs.length = d.jobs.length := by
  unfold DeskM.pick
  split
  · rfl
  · split
    · exact taken_len _ _
    · exact goes_len _ _
theorem pickN_len (d : DeskM) (i : Int) : ∀ n, (pickN d i n).jobs.length = d.jobs.length
  | 0 => rfl
  | n + 1 => (pick_len _ i).trans (pickN_len d i n)
theorem opD_jobs (o : OpM) (d : DeskM) : (opD o d).jobs.length ≤ d.jobs.length + 1 := by
  unfold opD
  split
  · unfold DeskM.submit
    split
    · simp
    · split
      · simp
      · simp
  · split
    · rw [pickN_len]; omega
    · split
      · unfold DeskM.cancel
        split
        · simp
        · split
          · simp
          · simp [DeskM.setJob]
      · split
        · unfold DeskM.kill
          split
          · simp
          · simp only
            split
            · simp
            · split <;> simp [DeskM.setJob]
        · omega
theorem UR.onD {W0 : World} {pb : Nat} {one : Bool} {j : Nat} {W W' : World} {dv : Value} {vs ps : List Value} {ds : List DP} {i : Nat} {o : OpM} {e : Ending} (h2 : Below W0.heap.size W0 W) (h3 : 0 < ds.length ∧ ds.length ≤ j + 1) (h4 : pollsN ds ds.length ≤ 3 * j + 2) (h5 : ∀ i, i < ds.length → Bd (64 * j) (ds.getD i dp0).d) (h6 : vs.length ≤ 4 * j) (h7 : ps.length ≤ 4 * j) (hi : i < ds.length)
    (h : OnD kitP DU W0.heap.size W pb dv one vs ps ds i (opD o (ds.getD i dp0).d) e W') : e = .returned (.bool true) ∧ UR W0 pb one (j + 1) W' := by
  obtain ⟨he, own', iv', pv', vs', ps', v', hla, hl1, hl2, hb⟩ := h
  refine ⟨he, own', dv, iv', pv', vs', ps', _, hla, h2.trans hb, by rw [List.length_set]; omega, ?_, fun k hk => ?_, by omega, by omega⟩
  · rw [List.length_set]
    have := pollsN_set (ds := ds) (i := i) (m := 1) (t := ⟨(ds.getD i dp0).p, (ds.getD i dp0).x, (ds.getD i dp0).y, opD o (ds.getD i dp0).d, v'⟩) (opD_jobs o _) ds.length (Nat.le_refl _)
    rw [if_pos hi] at this
    omega
  · rw [List.length_set] at hk
    by_cases e : k = i
    · subst e
      rw [getD_set_dp hk]
      exact (opD_bd (o := o) (h5 k hk)).mono (by omega)
    · rw [getD_set_dpn e]
      exact (h5 k hk).mono (by omega)
theorem step_any (W0 : World) (pb : Nat) (one : Bool) (j : Nat) (W : World) (o : OpM) (h : UR W0 pb one j W) (hj : j ≤ 2000000) (ho : OpOK W0 o) :
    Calls Tryz.prog 8 #[.pointer (some ⟨pb, 0, none⟩), opV o] W fun e W' => e = .returned (.bool true) ∧ UR W0 pb one (j + 1) W' := by
  have H : Hid (UR W0 pb one j W ∧ j ≤ 2000000) := ⟨h, hj⟩
  have HO : Hid (OpOK W0 o) := ho
  obtain ⟨okind, odesk, oa, on, osa, osc, ol, opa, opc, oml, oc1, oc2, oc3, oc4⟩ := o
  obtain ⟨sl, hsl⟩ : ∃ sl, sl = ol.length := ⟨_, rfl⟩
  obtain ⟨pl, hpl⟩ : ∃ pl, pl = oml.length := ⟨_, rfl⟩
  have HSl : Hid (sl = ol.length ∧ pl = oml.length) := ⟨hsl, hpl⟩
  unfold opV
  simp only
  rw [← hsl, ← hpl]
  have HSv : Hid (StepsV W0 (.slice osa sl osc) ol) := by rw [hsl]; exact ho.sv
  have HMv : Hid (PairsV W0 W0.heap.size (.slice opa pl opc) oml) := by rw [hpl]; exact ho.mv
  have HU : Hid (∀ t : Obj, UR W0 pb one j (W.alloc t)) := fun t => h.below ((Below.refl _ _).alloc (Nat.le_refl _) _)
  clear h hj ho hsl hpl
  by_cases k1 : okind = 1
  · subst k1
    go_enter Tryz.func8, Tryz.ntmps8
    go_wp2_with fail
    refine name_calls (p := fun X => UR W0 pb one j X) (HU.out _) ?_
    rintro X ⟨own, dv, iv, pv, vs, ps, ds, h1, h2, h3, h4, h5, h6, h7⟩
    refine (openedL_any kitP DU _ own X pb dv one iv pv vs ps ds oc1 oc2 oc3 oc4 h1 (by have := H.out.2; omega) (fun cf hc => du0 hc)).mono ?_
    rintro e W' ⟨rfl, own', dv', ds', hla, hb, hc⟩
    have HE : Hid (UR W0 pb one (j + 1) W') := by
      refine ⟨own', dv', iv, pv, vs, ps, ds', hla, h2.trans hb, ?_⟩
      rcases hc with ⟨_, t, rfl, ht⟩ | ⟨_, rfl⟩
      · refine ⟨by rw [List.length_append, List.length_singleton]; omega, ?_, fun i hi => ?_, by omega, by omega⟩
        · have e : t.d.jobs.length = 0 := by rw [ht]; rfl
          rw [pollsN_snoc]; omega
        · by_cases hl : i < ds.length
          · have e : (ds ++ [t]).getD i dp0 = ds.getD i dp0 := by simp [List.getD, List.getElem?_append_left hl]
            rw [e]; exact (h5 i hl).mono (by omega)
          · have hi : i < (ds ++ [t]).length := hi
            rw [List.length_append, List.length_singleton] at hi
            have e : (ds ++ [t]).getD i dp0 = t := by rw [show i = ds.length by omega]; simp [List.getD]
            rw [e, ht]; exact (bd0 _).mono (Nat.zero_le _)
      · exact ⟨by omega, by omega, fun i hi => (h5 i hi).mono (by omega), by omega, by omega⟩
    clear hla hb hc h1 h2 h3 h4 h5 h6 h7
    go_wp2
    go_ret
    exact ⟨rfl, HE.out⟩
  · by_cases k8 : okind = 8
    · subst k8
      go_enter Tryz.func8, Tryz.ntmps8
      go_wp2_with fail
      refine name_calls (p := fun X => UR W0 pb one j X) (HU.out _) ?_
      intro X hX
      have hX2 : Below W0.heap.size W0 X := by obtain ⟨_, _, _, _, _, _, _, _, h2, _⟩ := hX; exact h2
      refine (checked_any _ ol X (HSv.out.below hX2) HO.out.sl).mono ?_
      rintro e W' ⟨rfl, hb⟩
      have HE : Hid (UR W0 pb one (j + 1) W') := (hX.below hb).more
      clear hb hX hX2
      go_wp2
      go_ret
      exact ⟨rfl, HE.out⟩
    · by_cases k9 : okind = 9
      · subst k9
        go_enter Tryz.func8, Tryz.ntmps8
        go_wp2_with fail
        refine name_calls (p := fun X => UR W0 pb one j X) (HU.out _) ?_
        rintro X ⟨own, dv, iv, pv, vs, ps, ds, h1, h2, h3, h4, h5, h6, h7⟩
        refine (ranL_any kitP DU own ds run_ok W0 X pb dv one iv pv vs ps _ _ ol oml on h1 (by have := H.out.2; omega) (by have := H.out.2; omega) h2 HSv.out HO.out.sl HMv.out HO.out.ml).mono ?_
        rintro e W' ⟨rfl, own', iv', pv', vs', ps', hla, hl1, hl2, hb⟩
        have HE : Hid (UR W0 pb one (j + 1) W') := ⟨own', dv, iv', pv', vs', ps', ds, hla, h2.trans hb, by omega, by omega, fun i hi => (h5 i hi).mono (by omega), by omega, by omega⟩
        clear hla hl1 hl2 hb h1 h2 h3 h4 h5 h6 h7
        go_wp2
        go_ret
        exact ⟨rfl, HE.out⟩
      · by_cases kd : 2 ≤ okind ∧ okind ≤ 7
        · have hkd : okind = 2 ∨ okind = 3 ∨ okind = 4 ∨ okind = 5 ∨ okind = 6 ∨ okind = 7 := by omega
          obtain ⟨own, dv, iv, pv, vs, ps, ds, h1, h2, h3, h4, h5, h6, h7⟩ := H.out.1
          obtain ⟨da, dc, rfl⟩ := owns_form h1.row
          have c0 : W.cell? ⟨pb, 0, none⟩ = some (.slice da ds.length dc) := by rw [blk_cell h1.lw.blk]; rfl
          have hpb := blk_lt h1.lw.blk
          obtain ⟨i, hi, hpi⟩ : ∃ i : Nat, i < ds.length ∧ pickI odesk (ds.length : Int) = (i : Int) := by
            have hp := pickI_in odesk (show (0 : Int) < (ds.length : Int) by omega)
            exact ⟨(pickI odesk (ds.length : Int)).toNat, by omega, by omega⟩
          obtain ⟨dg, dval, rfl, hdv, cd, hdg⟩ := row_elem h1.row hi
          have hdv : dval = ptrV (ds.getD i dp0).p := by
            rw [List.getElem?_map, List.getElem?_eq_getElem hi] at hdv
            simp only [Option.map_some, Option.some.injEq] at hdv
            rw [← hdv]
            simp [List.getD, hi]
          rw [hdv] at cd
          unfold ptrV at cd
          obtain ⟨pp, hpp⟩ : ∃ pp, pp = (ds.getD i dp0).p := ⟨_, rfl⟩
          rw [← hpp] at cd
          obtain ⟨N, hN⟩ : ∃ N, N = ds.length := ⟨_, rfl⟩
          rw [← hN] at c0
          have HP : Hid (∀ X : World, Calls Tryz.prog 15 #[.int .i64 odesk, .int .i64 (N : Int)] X fun e w' => e = .returned (.int .i64 (i : Int)) ∧ w' = X) := fun X => by
            rw [hN, ← hpi]
            exact lawPick_any odesk _ X HO.out.dk (by omega) (by have := H.out.2; omega)
          have HC : Hid (∀ k : Int, 2 ≤ k ∧ k ≤ 7 → ∀ X : World, Below W.heap.size W X → Calls Tryz.prog 16 #[.pointer (some ⟨pb, 0, none⟩), .pointer (some ⟨pp, 0, none⟩), .agg #[.int .i64 k, .int .i64 odesk, .int .i64 oa, .int .i64 on, .slice osa sl osc, .slice opa pl opc, .int .i64 oc1, .int .i64 oc2, .int .i64 oc3, .int .i64 oc4]] X fun e W' => e = .returned (.bool true) ∧ UR W0 pb one (j + 1) W') := fun k hk X hX => by
            have hc := onDesk_all W0 own X pb _ one iv pv vs ps ds i ⟨k, odesk, oa, on, osa, osc, ol, opa, opc, oml, oc1, oc2, oc3, oc4⟩ (64 * j) (h1.below hX) hi hk (by have := H.out.2; omega) (by have := H.out.2; omega) (h5 i hi) (by have := H.out.2; omega) HO.out.n (h2.trans (hX.mono h2.size)) (by show StepsV W0 (.slice osa ol.length osc) ol; rw [← HSl.out.1]; exact HSv.out) HO.out.sl
            unfold opV at hc
            simp only at hc
            rw [← HSl.out.1, ← HSl.out.2, ← hpp] at hc
            exact hc.mono (fun e W' h => UR.onD (h2.trans (hX.mono h2.size)) h3 h4 h5 h6 h7 hi h)
          have mi : (i : Int) < (N : Int) := by omega
          have mi0 : (0 : Int) ≤ (i : Int) := by omega
          clear k1 k8 k9 h1 h2 h3 h4 h5 h6 h7 hpi hdv hpp hN hi kd
          rcases hkd with rfl | rfl | rfl | rfl | rfl | rfl
          all_goals
            go_enter Tryz.func8, Tryz.ntmps8
            go_wp2
            go_quiet ((go_at_call 15; exact Calls.quiet_of_same (HP.out _)))
            refine name_x (p := fun X => Below W.heap.size W X ∧ ∃ kd : Int, (2 ≤ kd ∧ kd ≤ 7) ∧ X.heap[W.heap.size]? = some (.cells #[.int .i64 kd, .int .i64 odesk, .int .i64 oa, .int .i64 on, .slice osa sl osc, .slice opa pl opc, .int .i64 oc1, .int .i64 oc2, .int .i64 oc3, .int .i64 oc4] 38 (0, 0))) ⟨below_drewN ((Below.refl _ _).alloc (Nat.le_refl _) _) _, _, by decide, heap_alloc_new _ _⟩ ?_
            rintro X ⟨hX, kd, hkd, hbx⟩
            have HX : Hid (Below W.heap.size W X ∧ 2 ≤ kd ∧ kd ≤ 7) := ⟨hX, hkd⟩
            have b0 : X.cell? ⟨W.heap.size, 0, none⟩ = some (.int .i64 kd) := by rw [blk_cell hbx]; rfl
            have b1 : X.cell? ⟨W.heap.size, 1, none⟩ = some (.int .i64 odesk) := by rw [blk_cell hbx]; rfl
            have b2 : X.cell? ⟨W.heap.size, 2, none⟩ = some (.int .i64 oa) := by rw [blk_cell hbx]; rfl
            have b3 : X.cell? ⟨W.heap.size, 3, none⟩ = some (.int .i64 on) := by rw [blk_cell hbx]; rfl
            have b4 : X.cell? ⟨W.heap.size, 4, none⟩ = some (.slice osa sl osc) := by rw [blk_cell hbx]; rfl
            have b5 : X.cell? ⟨W.heap.size, 5, none⟩ = some (.slice opa pl opc) := by rw [blk_cell hbx]; rfl
            have b6 : X.cell? ⟨W.heap.size, 6, none⟩ = some (.int .i64 oc1) := by rw [blk_cell hbx]; rfl
            have b7 : X.cell? ⟨W.heap.size, 7, none⟩ = some (.int .i64 oc2) := by rw [blk_cell hbx]; rfl
            have b8 : X.cell? ⟨W.heap.size, 8, none⟩ = some (.int .i64 oc3) := by rw [blk_cell hbx]; rfl
            have b9 : X.cell? ⟨W.heap.size, 9, none⟩ = some (.int .i64 oc4) := by rw [blk_cell hbx]; rfl
            clear hX hbx hkd c0 cd
            go_wp2_with fail
            refine (HC.out kd HX.out.2 _ HX.out.1).mono ?_
            rintro e W' ⟨rfl, hu⟩
            have HE : Hid (UR W0 pb one (j + 1) W') := hu
            clear hu b0 b1 b2 b3 b4 b5 b6 b7 b8 b9
            go_wp2
            go_ret
            exact ⟨rfl, HE.out⟩
        · go_enter Tryz.func8, Tryz.ntmps8
          have q2 : ¬ okind = 2 := by omega
          have q3 : ¬ okind = 3 := by omega
          have q4 : ¬ okind = 4 := by omega
          have q5 : ¬ okind = 5 := by omega
          have q6 : ¬ okind = 6 := by omega
          have q7 : ¬ okind = 7 := by omega
          go_wp2
          go_ret
          exact ⟨rfl, (HU.out _).more⟩
end Go.Proofs.YtlbmcdoldnajoaaGreat
