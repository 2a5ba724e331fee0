import Derived.Test.YtlbmcdoldnajoaaGreatLawJ
import Derived.Test.YtlbmcdoldnajoaaGreatFrA
set_option maxRecDepth 100000
set_option maxHeartbeats 400000
namespace Go.Proofs.YtlbmcdoldnajoaaGreat
open Go.RowKit
theorem lawPick_any (c n : Int) (w : World) (hc : i64B c) (h0 : 0 < n) (h1 : n ≤ 1000000000000) :
    Calls Tryz.prog 15 #[.int .i64 c, .int .i64 n] w fun e w' => e = .returned (.int .i64 (pickI c n)) ∧ w' = w := by
  obtain ⟨hc0, hc1⟩ := hc
  have hn0 : ¬ n = 0 := by omega
  by_cases hc : c < 0
  · have hw1 : IntKind.i64.wrap (c + 1) = c + 1 := by rw [IntKind.wrap_i64]; omega
    have hw2 : IntKind.i64.wrap (-(c + 1)) = -(c + 1) := by rw [IntKind.wrap_i64]; omega
    have hw3 : IntKind.i64.wrap ((-(c + 1)).tmod n) = (-(c + 1)).tmod n := by
      rw [Int.tmod_eq_emod_of_nonneg (by omega)]
      have := Int.emod_nonneg (-(c + 1)) hn0
      have := Int.emod_lt_of_pos (-(c + 1)) h0
      rw [IntKind.wrap_i64]; omega
    go_enter Tryz.func15, Tryz.ntmps15
    go_wp2
    go_ret
    exact ⟨ret_int (by rw [← Int.neg_tmod, Int.tmod_eq_emod_of_nonneg (by omega)]; simp only [pickI, if_pos hc]), rfl⟩
  · go_enter Tryz.func15, Tryz.ntmps15
    go_wp2
    go_ret
    exact ⟨ret_int (by simp only [pickI, if_neg (show ¬ c < 0 by omega)]), rfl⟩
structure OpM where
  kind : Int
  desk : Int
  a : Int
  n : Int
  sa : Option Addr
  sc : Nat
  l : List St
  pa : Option Addr
  pc : Nat
  ml : List (Int × Int)
  c1 : Int
  c2 : Int
  c3 : Int
  c4 : Int
def OpM.sv (o : OpM) : Value := .slice o.sa o.l.length o.sc
def OpM.pv (o : OpM) : Value := .slice o.pa o.ml.length o.pc
def opV (o : OpM) : Value := .agg #[.int .i64 o.kind, .int .i64 o.desk, .int .i64 o.a, .int .i64 o.n, .slice o.sa o.l.length o.sc, .slice o.pa o.ml.length o.pc, .int .i64 o.c1, .int .i64 o.c2, .int .i64 o.c3, .int .i64 o.c4]
def OnD (K : DeskKit) (Inv : DeskM → Prop) (B : Nat) (W : World) (pb : Nat) (dv : Value) (one : Bool) (vs ps : List Value) (ds : List DP) (i : Nat) (d' : DeskM) (e : Ending) (W' : World) : Prop :=
  e = .returned (.bool true) ∧ ∃ own' iv' pv' vs' ps' v', LA K Inv B own' W' pb dv one iv' pv' vs' ps' (ds.set i ⟨(ds.getD i dp0).p, (ds.getD i dp0).x, (ds.getD i dp0).y, d', v'⟩) ∧ vs'.length ≤ vs.length + 4 ∧ ps'.length ≤ ps.length + 4 ∧ Below B W W'
theorem onDesk_map (K : DeskKit) (Inv : DeskM → Prop) (B : Nat) (own : Nat → Nat) (W : World) (pb : Nat) (dv : Value) (one : Bool) (iv pv : Value) (vs ps : List Value) (ds : List DP) (i : Nat) (o : OpM)
    (h : LA K Inv B own W pb dv one iv pv vs ps ds) (hi : i < ds.length) (hk : o.kind = 5) (hps : ps.length ≤ 1000000000000) (hg : (ds.getD i dp0).d.goods.length ≤ 1000000000000) :
    Calls Tryz.prog 16 #[.pointer (some ⟨pb, 0, none⟩), ptrV (ds.getD i dp0).p, opV o] W fun e W' => OnD K Inv B W pb dv one vs ps ds i (ds.getD i dp0).d e W' := by
  obtain ⟨okind, odesk, oa, on, osa, osc, ol, opa, opc, oml, oc1, oc2, oc3, oc4⟩ := o
  simp only at hk ⊢
  subst hk
  have H : Hid (LA K Inv B own W pb dv one iv pv vs ps ds ∧ i < ds.length) := ⟨h, hi⟩
  have HI : Hid (ps.length ≤ 1000000000000 ∧ (ds.getD i dp0).d.goods.length ≤ 1000000000000) := ⟨hps, hg⟩
  obtain ⟨t, ht⟩ : ∃ t, t = ds.getD i dp0 := ⟨_, rfl⟩
  have HT : Hid (ds.getD i dp0 = t) := ht.symm
  rw [← ht]
  clear h hi ht hps hg
  unfold ptrV opV
  simp only
  go_enter Tryz.func16, Tryz.ntmps16
  go_wp2_with fail
  refine name_calls (p := fun X => Below W.heap.size W X ∧ X.heap[W.heap.size]? = some (.cells #[.int .i64 5, .int .i64 odesk, .int .i64 oa, .int .i64 on, .slice osa ol.length osc, .slice opa oml.length opc, .int .i64 oc1, .int .i64 oc2, .int .i64 oc3, .int .i64 oc4] 38 (0, 0))) ⟨(Below.refl _ _).alloc (Nat.le_refl _) _, heap_alloc_new _ _⟩ ?_
  rintro X ⟨k1, k2⟩
  have HX : Hid (LA K Inv B own X pb dv one iv pv vs ps ds ∧ Below B W X ∧ Below W.heap.size W X ∧ X.heap[W.heap.size]? = some (.cells #[.int .i64 5, .int .i64 odesk, .int .i64 oa, .int .i64 on, .slice osa ol.length osc, .slice opa oml.length opc, .int .i64 oc1, .int .i64 oc2, .int .i64 oc3, .int .i64 oc4] 38 (0, 0))) := ⟨H.out.1.below k1, k1.mono H.out.1.size, k1, k2⟩
  clear k1 k2
  have hmp := mapped_any K Inv B own X pb dv one iv pv vs ps ds i HX.out.1 H.out.2 HI.out.1 HI.out.2
  rw [HT.out] at hmp
  refine hmp.mono ?_
  clear hmp
  rintro e W1 ⟨rfl, own1, iv1, pv1, vs1, ps1, hL, hv, hp, hb⟩
  have HE : Hid (OnD K Inv B W pb dv one vs ps ds i t.d (.returned (.bool true)) W1) := ⟨rfl, own1, iv1, pv1, vs1, ps1, t.v, by rw [← HT.out, set_self_dp H.out.2]; exact hL, by omega, by omega, HX.out.2.1.trans hb⟩
  clear hL hv hp hb
  go_wp2
  go_ret
  exact HE.out
theorem onDesk_poll (K : DeskKit) (Inv : DeskM → Prop) (B : Nat) (own : Nat → Nat) (W : World) (pb : Nat) (dv : Value) (one : Bool) (iv pv : Value) (vs ps : List Value) (ds : List DP) (i : Nat) (o : OpM)
    (h : LA K Inv B own W pb dv one iv pv vs ps ds) (hi : i < ds.length) (hk : o.kind = 4) (hvs : vs.length ≤ 1000000000000) (hj : (ds.getD i dp0).d.jobs.length ≤ 1000000000000) (hT : ∀ k, k < (ds.getD i dp0).d.jobs.length → ((ds.getD i dp0).d.jobs.getD k jobM0).told.length ≤ 200) :
    Calls Tryz.prog 16 #[.pointer (some ⟨pb, 0, none⟩), ptrV (ds.getD i dp0).p, opV o] W fun e W' => OnD K Inv B W pb dv one vs ps ds i (ds.getD i dp0).d e W' := by
  obtain ⟨okind, odesk, oa, on, osa, osc, ol, opa, opc, oml, oc1, oc2, oc3, oc4⟩ := o
  simp only at hk ⊢
  subst hk
  have H : Hid (LA K Inv B own W pb dv one iv pv vs ps ds ∧ i < ds.length) := ⟨h, hi⟩
  have HI : Hid (vs.length ≤ 1000000000000 ∧ (ds.getD i dp0).d.jobs.length ≤ 1000000000000 ∧ ∀ k, k < (ds.getD i dp0).d.jobs.length → ((ds.getD i dp0).d.jobs.getD k jobM0).told.length ≤ 200) := ⟨hvs, hj, hT⟩
  obtain ⟨t, ht⟩ : ∃ t, t = ds.getD i dp0 := ⟨_, rfl⟩
  have HT : Hid (ds.getD i dp0 = t) := ht.symm
  rw [← ht]
  clear h hi ht hvs hj hT
  unfold ptrV opV
  simp only
  go_enter Tryz.func16, Tryz.ntmps16
  go_wp2_with fail
  refine name_calls (p := fun X => Below W.heap.size W X ∧ X.heap[W.heap.size]? = some (.cells #[.int .i64 4, .int .i64 odesk, .int .i64 oa, .int .i64 on, .slice osa ol.length osc, .slice opa oml.length opc, .int .i64 oc1, .int .i64 oc2, .int .i64 oc3, .int .i64 oc4] 38 (0, 0))) ⟨(Below.refl _ _).alloc (Nat.le_refl _) _, heap_alloc_new _ _⟩ ?_
  rintro X ⟨k1, k2⟩
  have HX : Hid (LA K Inv B own X pb dv one iv pv vs ps ds ∧ Below B W X ∧ Below W.heap.size W X ∧ X.heap[W.heap.size]? = some (.cells #[.int .i64 4, .int .i64 odesk, .int .i64 oa, .int .i64 on, .slice osa ol.length osc, .slice opa oml.length opc, .int .i64 oc1, .int .i64 oc2, .int .i64 oc3, .int .i64 oc4] 38 (0, 0))) := ⟨H.out.1.below k1, k1.mono H.out.1.size, k1, k2⟩
  clear k1 k2
  have hmp := polled_any K Inv B own X pb dv one iv pv vs ps ds i oa HX.out.1 H.out.2 HI.out.1 HI.out.2.1 HI.out.2.2
  rw [HT.out] at hmp
  refine hmp.mono ?_
  clear hmp
  rintro e W1 ⟨rfl, own1, iv1, pv1, vs1, ps1, hL, hv, hp, hb⟩
  have HE : Hid (OnD K Inv B W pb dv one vs ps ds i t.d (.returned (.bool true)) W1) := ⟨rfl, own1, iv1, pv1, vs1, ps1, t.v, by rw [← HT.out, set_self_dp H.out.2]; exact hL, by omega, by omega, HX.out.2.1.trans hb⟩
  clear hL hv hp hb
  go_wp2
  go_ret
  exact HE.out
theorem onDesk_submit (K : DeskKit) (Inv : DeskM → Prop) (hP : PSubOK K Inv) (hIn : ∀ d l, Inv d → Inv (d.submit l).1) (W0 : World) (B : Nat) (own : Nat → Nat) (W : World) (pb : Nat) (dv : Value) (one : Bool) (iv pv : Value) (vs ps : List Value) (ds : List DP) (i : Nat) (o : OpM)
    (h : LA K Inv B own W pb dv one iv pv vs ps ds) (hi : i < ds.length) (hk : o.kind = 2) (hs : Small (ds.getD i dp0).d) (hB : B = W0.heap.size) (hb0 : Below B W0 W) (hv : StepsV W0 o.sv o.l) (hl : o.l.length * 32 ≤ 140737488351232) :
    Calls Tryz.prog 16 #[.pointer (some ⟨pb, 0, none⟩), ptrV (ds.getD i dp0).p, opV o] W fun e W' => OnD K Inv B W pb dv one vs ps ds i ((ds.getD i dp0).d.submit o.l).1 e W' := by
  obtain ⟨okind, odesk, oa, on, osa, osc, ol, opa, opc, oml, oc1, oc2, oc3, oc4⟩ := o
  simp only at hk hv hl ⊢
  subst hk
  have H : Hid (LA K Inv B own W pb dv one iv pv vs ps ds ∧ i < ds.length) := ⟨h, hi⟩
  have HI : Hid (PSubOK K Inv ∧ (∀ d l, Inv d → Inv (d.submit l).1) ∧ Small (ds.getD i dp0).d ∧ B = W0.heap.size ∧ Below B W0 W ∧ StepsV W0 (.slice osa ol.length osc) ol) := ⟨hP, hIn, hs, hB, hb0, hv⟩
  obtain ⟨t, ht⟩ : ∃ t, t = ds.getD i dp0 := ⟨_, rfl⟩
  have HT : Hid (ds.getD i dp0 = t) := ht.symm
  rw [← ht]
  clear h hi ht hP hIn hs hB hb0 hv
  unfold ptrV opV
  simp only
  go_enter Tryz.func16, Tryz.ntmps16
  go_wp2_with fail
  refine name_calls (p := fun X => Below W.heap.size W X ∧ X.heap[W.heap.size]? = some (.cells #[.int .i64 2, .int .i64 odesk, .int .i64 oa, .int .i64 on, .slice osa ol.length osc, .slice opa oml.length opc, .int .i64 oc1, .int .i64 oc2, .int .i64 oc3, .int .i64 oc4] 38 (0, 0))) ⟨(Below.refl _ _).alloc (Nat.le_refl _) _, heap_alloc_new _ _⟩ ?_
  rintro X ⟨k1, k2⟩
  have HX : Hid (LA K Inv B own X pb dv one iv pv vs ps ds ∧ Below B W X ∧ Below W.heap.size W X ∧ X.heap[W.heap.size]? = some (.cells #[.int .i64 2, .int .i64 odesk, .int .i64 oa, .int .i64 on, .slice osa ol.length osc, .slice opa oml.length opc, .int .i64 oc1, .int .i64 oc2, .int .i64 oc3, .int .i64 oc4] 38 (0, 0))) := ⟨H.out.1.below k1, k1.mono H.out.1.size, k1, k2⟩
  clear k1 k2
  have hmp := submitted_any K Inv HI.out.1 HI.out.2.1 B W0 own X pb dv one iv pv vs ps ds i _ ol HX.out.1 H.out.2 HI.out.2.2.1 HI.out.2.2.2.1 (HI.out.2.2.2.2.1.trans HX.out.2.1) HI.out.2.2.2.2.2 hl
  rw [HT.out] at hmp
  refine hmp.mono ?_
  clear hmp
  rintro e W1 ⟨rfl, own1, v1, hL, hb⟩
  have HE : Hid (OnD K Inv B W pb dv one vs ps ds i (t.d.submit ol).1 (.returned (.bool true)) W1) := ⟨rfl, own1, iv, pv, vs, ps, v1, hL, by omega, by omega, HX.out.2.1.trans hb⟩
  clear hL hb
  go_wp2
  go_ret
  exact HE.out
theorem onDesk_pick (K : DeskKit) (Inv : DeskM → Prop) (hP : PPickOK K Inv) (hR : RPickOK Inv) (hIn : ∀ d i, Inv d → Inv (d.pick i).1) (B : Nat) (own : Nat → Nat) (W : World) (pb : Nat) (dv : Value) (one : Bool) (iv pv : Value) (vs ps : List Value) (ds : List DP) (i : Nat) (o : OpM)
    (h : LA K Inv B own W pb dv one iv pv vs ps ds) (hi : i < ds.length) (hk : o.kind = 3) (hon : i64B o.n) (hs : ∀ j, j ≤ 64 → Small (pickN (ds.getD i dp0).d o.a j)) :
    Calls Tryz.prog 16 #[.pointer (some ⟨pb, 0, none⟩), ptrV (ds.getD i dp0).p, opV o] W fun e W' => OnD K Inv B W pb dv one vs ps ds i (pickN (ds.getD i dp0).d o.a ((pickI o.n 64).toNat + 1)) e W' := by
  obtain ⟨okind, odesk, oa, on, osa, osc, ol, opa, opc, oml, oc1, oc2, oc3, oc4⟩ := o
  simp only at hk hon hs ⊢
  subst hk
  have H : Hid (LA K Inv B own W pb dv one iv pv vs ps ds ∧ i < ds.length) := ⟨h, hi⟩
  have HI : Hid (PPickOK K Inv ∧ RPickOK Inv ∧ (∀ d i, Inv d → Inv (d.pick i).1) ∧ (∀ j, j ≤ 64 → Small (pickN (ds.getD i dp0).d oa j)) ∧ i64B on) := ⟨hP, hR, hIn, hs, hon⟩
  obtain ⟨t, ht⟩ : ∃ t, t = ds.getD i dp0 := ⟨_, rfl⟩
  have HT : Hid (ds.getD i dp0 = t) := ht.symm
  rw [← ht]
  clear h hi ht hP hR hIn hs hon
  unfold ptrV opV
  simp only
  go_enter Tryz.func16, Tryz.ntmps16
  go_wp2_with fail
  refine name_calls (p := fun X => Below W.heap.size W X ∧ X.heap[W.heap.size]? = some (.cells #[.int .i64 3, .int .i64 odesk, .int .i64 oa, .int .i64 on, .slice osa ol.length osc, .slice opa oml.length opc, .int .i64 oc1, .int .i64 oc2, .int .i64 oc3, .int .i64 oc4] 38 (0, 0))) ⟨(Below.refl _ _).alloc (Nat.le_refl _) _, heap_alloc_new _ _⟩ ?_
  rintro X ⟨k1, k2⟩
  have HX : Hid (LA K Inv B own X pb dv one iv pv vs ps ds ∧ Below B W X ∧ Below W.heap.size W X ∧ X.heap[W.heap.size]? = some (.cells #[.int .i64 3, .int .i64 odesk, .int .i64 oa, .int .i64 on, .slice osa ol.length osc, .slice opa oml.length opc, .int .i64 oc1, .int .i64 oc2, .int .i64 oc3, .int .i64 oc4] 38 (0, 0))) := ⟨H.out.1.below k1, k1.mono H.out.1.size, k1, k2⟩
  clear k1 k2
  refine (lawPick_any on 64 X HI.out.2.2.2.2 (by decide) (by decide)).mono ?_
  rintro e X' ⟨rfl, hX'⟩
  obtain rfl := hX'.symm
  clear hX'
  have hlo := pickI_lo on (n := 64) (by decide)
  have hhi := pickI_hi on (n := 64) (by decide)
  obtain ⟨pn, hpn⟩ : ∃ pn : Nat, pickI on 64 = pn := ⟨(pickI on 64).toNat, by omega⟩
  have HPn : Hid (pickI on 64 = pn) := hpn
  rw [hpn] at hlo hhi ⊢
  have hw : IntKind.i64.wrap ((pn : Int) + 1) = (pn : Int) + 1 := by rw [IntKind.wrap_i64]; omega
  have b2 : X.cell? ⟨W.heap.size, 2, none⟩ = some (.int .i64 oa) := by rw [blk_cell HX.out.2.2.2]; rfl
  clear hpn
  go_wp2_with fail
  have hmp := picked_any K Inv HI.out.1 HI.out.2.1 HI.out.2.2.1 B own X pb dv one iv pv vs ps ds i (pn + 1) oa HX.out.1 H.out.2 (by omega) (fun j hj => HI.out.2.2.2.1 j (by omega))
  rw [HT.out, show ((pn + 1 : Nat) : Int) = (pn : Int) + 1 by omega] at hmp
  refine hmp.mono ?_
  clear hmp
  rintro e W1 ⟨rfl, own1, v1, hL, hb⟩
  have HE : Hid (OnD K Inv B W pb dv one vs ps ds i (pickN t.d oa ((pn : Int).toNat + 1)) (.returned (.bool true)) W1) := ⟨rfl, own1, iv, pv, vs, ps, v1, hL, by omega, by omega, HX.out.2.1.trans hb⟩
  clear hL hb
  go_wp2
  go_ret
  rw [HPn.out]
  exact HE.out
def PCancelOK (K : DeskKit) (Inv : DeskM → Prop) : Prop := ∀ (F : Nat → Prop) (w : World) (b : Nat) (d : DeskM) (n : Int), K.PD F w b d → Inv d → Small d → (∀ k, w.heap.size ≤ k → F k) →
  Calls Tryz.prog 35 #[ptrV b, .int .i64 n] w fun e w' => PStep K F w b (d.cancel n).1 (.int .i64 (d.cancel n).2) e w'
def RCancelOK (Inv : DeskM → Prop) : Prop := ∀ (F : Nat → Prop) (w : World) (rb : Nat) (d : DeskM) (v : RV) (n : Int), RD F w rb d v → Inv d → Small d → (∀ k, w.heap.size ≤ k → F k) →
  Calls Tryz.prog 36 #[ptrV rb, .int .i64 n] w fun e w' => RStep F w rb (d.cancel n).1 (.int .i64 (d.cancel n).2) e w'
theorem onDesk_cancel (K : DeskKit) (Inv : DeskM → Prop) (hP : PCancelOK K Inv) (hR : RCancelOK Inv) (hIn : ∀ d n, Inv d → Inv (d.cancel n).1) (B : Nat) (own : Nat → Nat) (W : World) (pb : Nat) (dv : Value) (one : Bool) (iv pv : Value) (vs ps : List Value) (ds : List DP) (i : Nat) (o : OpM)
    (h : LA K Inv B own W pb dv one iv pv vs ps ds) (hi : i < ds.length) (hk : o.kind = 6) (hs : Small (ds.getD i dp0).d) :
    Calls Tryz.prog 16 #[.pointer (some ⟨pb, 0, none⟩), ptrV (ds.getD i dp0).p, opV o] W fun e W' => OnD K Inv B W pb dv one vs ps ds i ((ds.getD i dp0).d.cancel o.a).1 e W' := by
  obtain ⟨okind, odesk, oa, on, osa, osc, ol, opa, opc, oml, oc1, oc2, oc3, oc4⟩ := o
  simp only at hk ⊢
  subst hk
  have H : Hid (LA K Inv B own W pb dv one iv pv vs ps ds ∧ i < ds.length) := ⟨h, hi⟩
  have HI : Hid (PCancelOK K Inv ∧ RCancelOK Inv ∧ (∀ d n, Inv d → Inv (d.cancel n).1) ∧ Small (ds.getD i dp0).d) := ⟨hP, hR, hIn, hs⟩
  obtain ⟨t, ht⟩ : ∃ t, t = ds.getD i dp0 := ⟨_, rfl⟩
  have HT : Hid (ds.getD i dp0 = t) := ht.symm
  rw [← ht]
  have c0 := h.cx hi
  have c1 := h.cy hi
  have hpl := blk_lt (h.pr i hi).2
  have hown := (h.pr i hi).1
  rw [← ht] at c0 c1 hpl hown
  clear h hi ht hP hR hIn hs
  unfold ptrV opV
  simp only
  go_enter Tryz.func16, Tryz.ntmps16
  go_wp2_with fail
  refine name_wp (p := fun X => Below W.heap.size W X ∧ X.heap[W.heap.size]? = some (.cells #[.int .i64 6, .int .i64 odesk, .int .i64 oa, .int .i64 on, .slice osa ol.length osc, .slice opa oml.length opc, .int .i64 oc1, .int .i64 oc2, .int .i64 oc3, .int .i64 oc4] 38 (0, 0))) ⟨(Below.refl _ _).alloc (Nat.le_refl _) _, heap_alloc_new _ _⟩ ?_
  rintro X ⟨k1, k2⟩
  have HX : Hid (LA K Inv B own X pb dv one iv pv vs ps ds ∧ Below B W X ∧ Below W.heap.size W X ∧ X.heap[W.heap.size]? = some (.cells #[.int .i64 6, .int .i64 odesk, .int .i64 oa, .int .i64 on, .slice osa ol.length osc, .slice opa oml.length opc, .int .i64 oc1, .int .i64 oc2, .int .i64 oc3, .int .i64 oc4] 38 (0, 0))) := ⟨H.out.1.below k1, k1.mono H.out.1.size, k1, k2⟩
  have a0 : X.cell? ⟨t.p, 0, none⟩ = some (.pointer (some ⟨t.x, 0, none⟩)) := (k1.cell (p := ⟨t.p, 0, none⟩) hpl).trans c0
  have b2 : X.cell? ⟨W.heap.size, 2, none⟩ = some (.int .i64 oa) := by rw [blk_cell k2]; rfl
  clear k1 k2 c0
  refine wp_tail 6 (by kernel_rfl) ?_
  simp only [List.take_succ_cons, List.take_zero, List.drop_succ_cons, List.drop_zero]
  repeat still_step
  refine wpStill_nil ?_
  go_wp2_with fail
  have hpd := H.out.1.pxF H.out.2 HX.out.2.2.1.drew
  have hca := HI.out.1 _ X.drew (ds.getD i dp0).x (ds.getD i dp0).d oa hpd (H.out.1.inv i H.out.2) HI.out.2.2.2 (fun k hk => Or.inr hk)
  rw [HT.out] at hca
  refine hca.mono ?_
  clear hca hpd
  rintro e W1 ⟨rfl, hpd1, hfr1⟩
  have hzX : W.heap.size ≤ X.drew.heap.size := HX.out.2.2.1.size
  have hzb : W.heap.size < X.drew.heap.size := blk_lt HX.out.2.2.2
  have HP1 : Hid (K.PD (ownF own W.heap.size X.drew.heap.size (2 * i + 2)) W1 t.x (t.d.cancel oa).1 ∧ Fr (ownF own W.heap.size X.drew.heap.size (2 * i + 2)) X.drew W1) := ⟨hpd1, hfr1⟩
  have d1 : W1.cell? ⟨t.p, 1, none⟩ = some (.pointer (some ⟨t.y, 0, none⟩)) := (hfr1.cell (show t.p < _ by omega) (fun hr => by rcases hr with hr | hr; omega; omega)).trans ((HX.out.2.2.1.drew.cell (p := ⟨t.p, 1, none⟩) hpl).trans c1)
  have hbox : W1.heap[W.heap.size]? = _ := hfr1.blk (show X.drew.heap[W.heap.size]? = _ from HX.out.2.2.2) (fun hr => by rcases hr with hr | hr; omega; omega)
  have b3 : W1.cell? ⟨W.heap.size, 2, none⟩ = some (.int .i64 oa) := by rw [blk_cell hbox]; rfl
  obtain ⟨er, her⟩ : ∃ er, er = (t.d.cancel oa).2 := ⟨_, rfl⟩
  have HER : Hid (er = (t.d.cancel oa).2) := her
  rw [← her]
  clear hpd1 hfr1 hbox c1 a0 b2 her hzX hzb
  go_wp2_with fail
  refine wp_tail 6 (by kernel_rfl) ?_
  simp only [List.take_succ_cons, List.take_zero, List.drop_succ_cons, List.drop_zero]
  repeat still_step
  refine wpStill_nil ?_
  go_wp2_with fail
  have HP1d : Hid (Fr (ownF own W.heap.size X.drew.heap.size (2 * i + 2)) X.drew W1.drew) := HP1.out.2.drew
  have hrd := H.out.1.pyF H.out.2 HX.out.2.2.1.drew HP1d.out
  have hca := HI.out.2.1 _ W1.drew (ds.getD i dp0).y (ds.getD i dp0).d (ds.getD i dp0).v oa hrd (H.out.1.inv i H.out.2) HI.out.2.2.2 (fun k hk => Or.inr hk)
  rw [HT.out] at hca
  refine hca.mono ?_
  clear hca hrd
  rintro e W2 ⟨rfl, v2, hrd2, hfr2⟩
  rw [← HER.out]
  have HB : Hid (LA K Inv B (ownB own W.heap.size X.drew.heap.size W1.drew.heap.size W2.heap.size i) W2 pb dv one iv pv vs ps (ds.set i ⟨(ds.getD i dp0).p, (ds.getD i dp0).x, (ds.getD i dp0).y, (t.d.cancel oa).1, v2⟩) ∧ Below B W W2) :=
    LA.both H.out.1 H.out.2 HX.out.2.2.1.drew HP1d.out (d' := (t.d.cancel oa).1) (v' := v2) (by rw [HT.out]; exact K.fr (R := fun _ => False) HP1.out.1 (Fr.refl _ _).drew (fun _ _ hs => hs)) hfr2 (by rw [HT.out]; exact hrd2) (HI.out.2.2.1 _ _ (by have := H.out.1.inv i H.out.2; rw [HT.out] at this; exact this))
  have HE : Hid (OnD K Inv B W pb dv one vs ps ds i (t.d.cancel oa).1 (.returned (.bool true)) W2) := ⟨rfl, _, iv, pv, vs, ps, v2, HB.out.1, by omega, by omega, HB.out.2⟩
  clear hrd2 hfr2 d1 b3
  go_wp2
  go_ret
  exact HE.out
def PKillOK (K : DeskKit) (Inv : DeskM → Prop) : Prop := ∀ (F : Nat → Prop) (w : World) (b : Nat) (d : DeskM) (n : Int), K.PD F w b d → Inv d → Small d → (∀ k, w.heap.size ≤ k → F k) →
  Calls Tryz.prog 37 #[ptrV b, .int .i64 n] w fun e w' => PStep K F w b (d.kill n).1 (.int .i64 (d.kill n).2) e w'
def RKillOK (Inv : DeskM → Prop) : Prop := ∀ (F : Nat → Prop) (w : World) (rb : Nat) (d : DeskM) (v : RV) (n : Int), RD F w rb d v → Inv d → Small d → (∀ k, w.heap.size ≤ k → F k) →
  Calls Tryz.prog 38 #[ptrV rb, .int .i64 n] w fun e w' => RStep F w rb (d.kill n).1 (.int .i64 (d.kill n).2) e w'
theorem onDesk_kill (K : DeskKit) (Inv : DeskM → Prop) (hP : PKillOK K Inv) (hR : RKillOK Inv) (hIn : ∀ d n, Inv d → Inv (d.kill n).1) (B : Nat) (own : Nat → Nat) (W : World) (pb : Nat) (dv : Value) (one : Bool) (iv pv : Value) (vs ps : List Value) (ds : List DP) (i : Nat) (o : OpM)
    (h : LA K Inv B own W pb dv one iv pv vs ps ds) (hi : i < ds.length) (hk : o.kind = 7) (hs : Small (ds.getD i dp0).d) :
    Calls Tryz.prog 16 #[.pointer (some ⟨pb, 0, none⟩), ptrV (ds.getD i dp0).p, opV o] W fun e W' => OnD K Inv B W pb dv one vs ps ds i ((ds.getD i dp0).d.kill o.a).1 e W' := by
  obtain ⟨okind, odesk, oa, on, osa, osc, ol, opa, opc, oml, oc1, oc2, oc3, oc4⟩ := o
  simp only at hk ⊢
  subst hk
  have H : Hid (LA K Inv B own W pb dv one iv pv vs ps ds ∧ i < ds.length) := ⟨h, hi⟩
  have HI : Hid (PKillOK K Inv ∧ RKillOK Inv ∧ (∀ d n, Inv d → Inv (d.kill n).1) ∧ Small (ds.getD i dp0).d) := ⟨hP, hR, hIn, hs⟩
  obtain ⟨t, ht⟩ : ∃ t, t = ds.getD i dp0 := ⟨_, rfl⟩
  have HT : Hid (ds.getD i dp0 = t) := ht.symm
  rw [← ht]
  have c0 := h.cx hi
  have c1 := h.cy hi
  have hpl := blk_lt (h.pr i hi).2
  have hown := (h.pr i hi).1
  rw [← ht] at c0 c1 hpl hown
  clear h hi ht hP hR hIn hs
  unfold ptrV opV
  simp only
  go_enter Tryz.func16, Tryz.ntmps16
  go_wp2_with fail
  refine name_wp (p := fun X => Below W.heap.size W X ∧ X.heap[W.heap.size]? = some (.cells #[.int .i64 7, .int .i64 odesk, .int .i64 oa, .int .i64 on, .slice osa ol.length osc, .slice opa oml.length opc, .int .i64 oc1, .int .i64 oc2, .int .i64 oc3, .int .i64 oc4] 38 (0, 0))) ⟨(Below.refl _ _).alloc (Nat.le_refl _) _, heap_alloc_new _ _⟩ ?_
  rintro X ⟨k1, k2⟩
  have HX : Hid (LA K Inv B own X pb dv one iv pv vs ps ds ∧ Below B W X ∧ Below W.heap.size W X ∧ X.heap[W.heap.size]? = some (.cells #[.int .i64 7, .int .i64 odesk, .int .i64 oa, .int .i64 on, .slice osa ol.length osc, .slice opa oml.length opc, .int .i64 oc1, .int .i64 oc2, .int .i64 oc3, .int .i64 oc4] 38 (0, 0))) := ⟨H.out.1.below k1, k1.mono H.out.1.size, k1, k2⟩
  have a0 : X.cell? ⟨t.p, 0, none⟩ = some (.pointer (some ⟨t.x, 0, none⟩)) := (k1.cell (p := ⟨t.p, 0, none⟩) hpl).trans c0
  have b2 : X.cell? ⟨W.heap.size, 2, none⟩ = some (.int .i64 oa) := by rw [blk_cell k2]; rfl
  clear k1 k2 c0
  refine wp_tail 6 (by kernel_rfl) ?_
  simp only [List.take_succ_cons, List.take_zero, List.drop_succ_cons, List.drop_zero]
  repeat still_step
  refine wpStill_nil ?_
  go_wp2_with fail
  have hpd := H.out.1.pxF H.out.2 HX.out.2.2.1.drew
  have hca := HI.out.1 _ X.drew (ds.getD i dp0).x (ds.getD i dp0).d oa hpd (H.out.1.inv i H.out.2) HI.out.2.2.2 (fun k hk => Or.inr hk)
  rw [HT.out] at hca
  refine hca.mono ?_
  clear hca hpd
  rintro e W1 ⟨rfl, hpd1, hfr1⟩
  have hzX : W.heap.size ≤ X.drew.heap.size := HX.out.2.2.1.size
  have hzb : W.heap.size < X.drew.heap.size := blk_lt HX.out.2.2.2
  have HP1 : Hid (K.PD (ownF own W.heap.size X.drew.heap.size (2 * i + 2)) W1 t.x (t.d.kill oa).1 ∧ Fr (ownF own W.heap.size X.drew.heap.size (2 * i + 2)) X.drew W1) := ⟨hpd1, hfr1⟩
  have d1 : W1.cell? ⟨t.p, 1, none⟩ = some (.pointer (some ⟨t.y, 0, none⟩)) := (hfr1.cell (show t.p < _ by omega) (fun hr => by rcases hr with hr | hr; omega; omega)).trans ((HX.out.2.2.1.drew.cell (p := ⟨t.p, 1, none⟩) hpl).trans c1)
  have hbox : W1.heap[W.heap.size]? = _ := hfr1.blk (show X.drew.heap[W.heap.size]? = _ from HX.out.2.2.2) (fun hr => by rcases hr with hr | hr; omega; omega)
  have b3 : W1.cell? ⟨W.heap.size, 2, none⟩ = some (.int .i64 oa) := by rw [blk_cell hbox]; rfl
  obtain ⟨er, her⟩ : ∃ er, er = (t.d.kill oa).2 := ⟨_, rfl⟩
  have HER : Hid (er = (t.d.kill oa).2) := her
  rw [← her]
  clear hpd1 hfr1 hbox c1 a0 b2 her hzX hzb
  go_wp2_with fail
  refine wp_tail 6 (by kernel_rfl) ?_
  simp only [List.take_succ_cons, List.take_zero, List.drop_succ_cons, List.drop_zero]
  repeat still_step
  refine wpStill_nil ?_
  go_wp2_with fail
  have HP1d : Hid (Fr (ownF own W.heap.size X.drew.heap.size (2 * i + 2)) X.drew W1.drew) := HP1.out.2.drew
  have hrd := H.out.1.pyF H.out.2 HX.out.2.2.1.drew HP1d.out
  have hca := HI.out.2.1 _ W1.drew (ds.getD i dp0).y (ds.getD i dp0).d (ds.getD i dp0).v oa hrd (H.out.1.inv i H.out.2) HI.out.2.2.2 (fun k hk => Or.inr hk)
  rw [HT.out] at hca
  refine hca.mono ?_
  clear hca hrd
  rintro e W2 ⟨rfl, v2, hrd2, hfr2⟩
  rw [← HER.out]
  have HB : Hid (LA K Inv B (ownB own W.heap.size X.drew.heap.size W1.drew.heap.size W2.heap.size i) W2 pb dv one iv pv vs ps (ds.set i ⟨(ds.getD i dp0).p, (ds.getD i dp0).x, (ds.getD i dp0).y, (t.d.kill oa).1, v2⟩) ∧ Below B W W2) :=
    LA.both H.out.1 H.out.2 HX.out.2.2.1.drew HP1d.out (d' := (t.d.kill oa).1) (v' := v2) (by rw [HT.out]; exact K.fr (R := fun _ => False) HP1.out.1 (Fr.refl _ _).drew (fun _ _ hs => hs)) hfr2 (by rw [HT.out]; exact hrd2) (HI.out.2.2.1 _ _ (by have := H.out.1.inv i H.out.2; rw [HT.out] at this; exact this))
  have HE : Hid (OnD K Inv B W pb dv one vs ps ds i (t.d.kill oa).1 (.returned (.bool true)) W2) := ⟨rfl, _, iv, pv, vs, ps, v2, HB.out.1, by omega, by omega, HB.out.2⟩
  clear hrd2 hfr2 d1 b3
  go_wp2
  go_ret
  exact HE.out
end Go.Proofs.YtlbmcdoldnajoaaGreat
