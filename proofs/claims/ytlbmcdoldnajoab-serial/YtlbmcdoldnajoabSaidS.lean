import Derived.Test.YtlbmcdoldnajoabKOrd2

namespace Go.Proofs.Ytlbmcdoldnajoab
open Go.RowKit
theorem ordered_k {o1 : Nat → Option Nat} {rb : Nat} {R : RM} {v1 : KV} {N : Nat} (hk : KOk N R) (hN : N ≤ 900000000) : ∀ q, q ≤ 900000001 → OrdOK o1 rb R v1 q
  | 0, _ => ordered_0
  | q + 1, h => ordered_s hk hN (by omega) (ordered_k hk hN q (by omega))
theorem order_has {R : RM} (h : KInv R) : ∀ x ∈ R.order, R.d.Has x := fun x hx => by
  rw [h.order] at hx
  obtain ⟨g, hg, rfl⟩ := List.mem_map.1 hx
  obtain ⟨i, hi, e⟩ := List.getElem_of_mem hg
  have h1 := (h.inv.g.gjob i hi).1
  have e2 : gAt R.d.goods i = g := by unfold gAt; simp [List.getD, hi, e]
  rw [e2] at h1
  exact h1
set_option maxRecDepth 100000 in
set_option maxHeartbeats 1000000 in
theorem serial_walk (a b c d : Int) (w : World) (ha : i64B a) (hb : i64B b) (hc : i64B c) (hd : i64B d) {S : List Sc} (hN : S.length ≤ 800000000) {sv : Value} (hs : ScrAt w.heap.size w sv S) :
    Calls Try.prog 3 #[confV a b c d, sv] w fun e w' => e = .returned (.bool true) ∧ Below w.heap.size w w' := by
  have HSx : Hid (∀ W, Below w.heap.size w W → Calls Try.prog 6 #[sv] W fun e w' => ∃ v1, e = .returned v1 ∧ ScrAt w'.heap.size w' v1 (sixA S S.length).1 ∧ Below W.heap.size W w') := fun W hW => six_k W ((hs.below hW).more hW.size) hN
  have HPl : Hid (∀ W v, ScrAt W.heap.size W v (sixA S S.length).1 → Calls Try.prog 5 #[.agg #[.int .i64 a, .int .i64 b, .int .i64 c, .int .i64 d], v] W fun e w' => PlayedP (fitM a b c d) (1 + (sixA S S.length).1.length) W e w') := fun W v hv =>
    played_k a b c d W ha hb hc hd (by have := (sixA_le S S.length).1; omega) hv
  have HN : Hid (1 + (sixA S S.length).1.length ≤ 900000000) := by
    have := (sixA_le S S.length).1
    show 1 + (sixA S S.length).1.length ≤ 900000000
    omega
  generalize (sixA S S.length).1 = L6 at *
  obtain ⟨⟨ao, cap, hv, _⟩, _⟩ := hs
  obtain ⟨n, hn⟩ : ∃ n, n = S.length := ⟨_, rfl⟩
  rw [← hn] at hv
  subst hv
  obtain ⟨n6, hn6⟩ : ∃ n6, n6 = L6.length := ⟨_, rfl⟩
  have HN6 : Hid (n6 = L6.length) := hn6
  unfold confV
  clear ha hb hc hd hN hn hn6
  go_enter Try.func3, Try.ntmps3
  go_wp2_with fail
  refine (plain_any run_ok _).mono ?_
  rintro e W0 ⟨rfl, hb0⟩
  have hba : Below w.heap.size w (w.alloc (.cells #[.int .i64 a, .int .i64 b, .int .i64 c, .int .i64 d] 23)) := (Below.refl _ _).alloc (Nat.le_refl _) _
  have hbw : Below w.heap.size w W0 := hba.trans (hb0.mono hba.size)
  have hcf : W0.heap[w.heap.size]? = some (.cells #[.int .i64 a, .int .i64 b, .int .i64 c, .int .i64 d] 23 (0, 0)) := (hb0.block w.heap.size (by simp)).trans (heap_alloc_new _ _)
  have HB0 : Hid (Below w.heap.size w W0.drew ∧ Below W0.heap.size W0 W0.drew) := ⟨hbw.drew, (Below.refl _ _).drew⟩
  have HCf : Hid (∀ W, Below W0.heap.size W0 W → W.cell? ⟨w.heap.size, 0, none⟩ = some (.int .i64 a) ∧ W.cell? ⟨w.heap.size, 1, none⟩ = some (.int .i64 b) ∧ W.cell? ⟨w.heap.size, 2, none⟩ = some (.int .i64 c) ∧ W.cell? ⟨w.heap.size, 3, none⟩ = some (.int .i64 d)) := fun W hW => by
    obtain ⟨g0, g1, g2, g3, _⟩ := conf_box ((hW.block w.heap.size (blk_lt hcf)).trans hcf)
    exact ⟨g0, g1, g2, g3⟩
  obtain ⟨g0, g1, g2, g3, g4⟩ := conf_box hcf
  clear hb0 hba hbw hcf
  go_wp2
  go_cut [6] (fun x wx => ∃ rb o v R, x = .pointer (some ⟨rb, 0, none⟩) ∧ KP o wx rb R v ∧ KOk (1 + L6.length) R ∧ Below w.heap.size w wx)
  case first =>
    go_region_held3 (fun w' => w'.cell? ⟨w.heap.size, 0, none⟩ = some (.int .i64 a) ∧ w'.cell? ⟨w.heap.size, 1, none⟩ = some (.int .i64 b) ∧ w'.cell? ⟨w.heap.size, 2, none⟩ = some (.int .i64 c) ∧ w'.cell? ⟨w.heap.size, 3, none⟩ = some (.int .i64 d)) (go_keep) (first | (go_at_call 6; refine (HSx.out _ HB0.out.1).mono ?_; rintro e W1 ⟨v1, rfl, hs1, hb1⟩; obtain ⟨s1a, s1c, hv1, _⟩ := hs1.1; rw [← HN6.out] at hv1; subst hv1; have HS1 : Hid (ScrAt W1.heap.size W1 (.slice s1a n6 s1c) L6 ∧ Below W0.heap.size W0 W1 ∧ Below w.heap.size w W1) := ⟨hs1, HB0.out.2.trans (hb1.mono HB0.out.2.size), HB0.out.1.trans (hb1.mono HB0.out.1.size)⟩; obtain ⟨k0, k1, k2, k3⟩ := HCf.out W1 HS1.out.2.1; clear hs1 hb1) | (go_at_call 5; refine (HPl.out _ _ HS1.out.1).mono ?_; rintro e W2 ⟨rb, o, v, R, rfl, hkp, hk, _, _, _, hb2⟩; have HS2 : Hid (KP o W2 rb R v ∧ KOk (1 + L6.length) R ∧ Below w.heap.size w W2) := ⟨hkp, hk, HS1.out.2.2.trans (hb2.mono HS1.out.2.2.size)⟩; obtain ⟨j0, j1, j2, j3⟩ := HCf.out W2 (HS1.out.2.1.trans (hb2.mono HS1.out.2.1.size)); unfold ptrV; clear hkp hk hb2))
    all_goals
      go_wp2_with fail
      go_meet
      exact ⟨rb, o, v, R, rfl, HS2.out⟩
  case rest =>
  clear HSx HPl HB0 HCf g0 g1 g2 g3 g4
  obtain ⟨rb, o, v, R, rfl, hkp, hk, hb⟩ := hcut
  obtain ⟨oa, oc, hov⟩ := owns_form (hkp.order nX).1
  obtain ⟨on, hon⟩ : ∃ on, on = R.order.length := ⟨_, rfl⟩
  rw [← hon] at hov
  have c6 : wc.cell? ⟨rb, 6, none⟩ = some (.slice oa on oc) := by rw [← hov]; exact hkp.cell 6
  have hol : R.order.length ≤ 900000000 := (hk.sm HN.out).order
  have hO := ordered_k (o1 := o) (rb := rb) (v1 := v) hk HN.out R.order.length (by omega) R.order [] (.slice oa on oc) (.slice none 0 0) wc rfl hkp (order_has hk.k) (by
    rw [← hov]
    refine intsV_own (B := 0) ?_ (by rw [List.length_map]; omega)
    rw [List.length_map, List.map_map]
    exact (hkp.order nX).1) (by rw [← hov]; exact owns_room (hkp.order nX).1) (pairsV_nil _ _)
  rw [ord_true hk.k] at hO
  have HB : Hid (Below w.heap.size w wc) := hb
  unfold ptrV at hO
  clear hkp hk hb hov hon hol
  go_wp2_with fail
  refine hO.mono ?_
  clear hO
  rintro e Z ⟨rfl, hbz⟩
  have HE : Hid (Below w.heap.size w Z) := HB.out.trans (hbz.mono HB.out.size)
  clear hbz
  go_wp2
  go_ret
  exact ⟨rfl, HE.out⟩
end Go.Proofs.Ytlbmcdoldnajoab

namespace Go.Proofs.Ytlbmcdoldnajoab
open Go.ChangeShapes Go.WideShapes Go.ChangeAt Go.RowKit Go.Deep
set_option maxRecDepth 100000 in
theorem serial_lifted (os : Os) (started : os.Started) (H : Type) (enc : TypeId × Value → H) (F : Stop.Interp) :
    ReturnsInHanded {} Try.checked os 3 .any ((Rows.OpenSpec.upto Rows.serialSpec).pre6 enc Try.prog Try.f3 Rows.serialUptoRow.domain false) (((Rows.OpenSpec.upto Rows.serialSpec).at F).post enc Try.prog Try.f3 false true false false) := by
  refine returnsInHanded_of_cond (C := Try.checked) (s := Rows.OpenSpec.upto Rows.serialSpec) (k := Rows.uptoSmall) rfl Try.own started (by kernel_rfl) Try.func3
    (OpenSpec.witness (enc := enc) (C := Try.checked) (s := Rows.OpenSpec.upto Rows.serialSpec) (k := Rows.uptoSmall) rfl false ⟨#[], #[.agg #[.int .i64 1, .int .i64 1, .int .i64 1, .int .i64 1], .slice none 0 0], []⟩ 8 (by kernel_rfl) (by kernel_rfl) (by kernel_rfl)
      (x := ([.agg [.lit (.int .i64 1), .lit (.int .i64 1), .lit (.int .i64 1), .lit (.int .i64 1)], .nil], [], [])) (by kernel_rfl) rfl (by kernel_rfl)) ?_
  intro W base args ds gs before hval0 hW _ hk _
  have hval : ∀ (j : Nat) t v, Try.f3.params[j]? = some t → args[j]? = some v → Value.okWide Try.prog W .any base t v := hval0
  have hW' := hW
  obtain ⟨p, q, hA0, hV, rfl, hfz, hnd⟩ := hW
  have hA : DataW.TrodAll enc Try.prog W 0 (fun _ => true) true Try.f3.params.toList args.toList ds p := hA0
  rw [Try.params3] at hA hval
  obtain ⟨v0, v1, d0, d1, p0, p1, rfl, rfl, rfl, h0, h1⟩ := trodAll_two hA
  obtain ⟨rfl, rfl⟩ := trodVars_none hV
  have hbulk : Rows.uptoBulkAll [d0, d1] ≤ 1048576 := of_decide_eq_true hk
  obtain ⟨cs, rfl, _⟩ := okWide_struct Try.underlying23 (hval 0 23 v0 rfl rfl)
  obtain ⟨a1, len1, cap1, rfl⟩ := okWide_slice Try.underlying24 (hval 1 24 v1 rfl rfl)
  have k0 := h0
  have k1 := h1
  have lt0 : ∀ x ∈ p0, x.block < W.heap.size := by obtain ⟨m, hm⟩ := k0; exact DataW.trod_lt m _ _ _ hm
  have lt1 : ∀ x ∈ p1, x.block < W.heap.size := by obtain ⟨m, hm⟩ := k1; exact DataW.trod_lt m _ _ _ hm
  obtain ⟨a, b, c, d, hcs, ha, hb, hc, hd⟩ : ∃ a b c d : Int, cs = #[.int .i64 a, .int .i64 b, .int .i64 c, .int .i64 d] ∧ i64B a ∧ i64B b ∧ i64B c ∧ i64B d := by
    obtain ⟨fuel, hf⟩ := h0
    obtain ⟨a, b, c, d, h1, h2⟩ := open_confB (cs := cs.toList) (by simpa [Value.cells] using hf)
    exact ⟨a, b, c, d, by rw [← Array.toArray_toList (xs := cs), h1], h2⟩
  obtain ⟨S, hS, hl⟩ : ∃ S : List Sc, ScrAt W.heap.size W (.slice a1 len1 cap1) S ∧ S.length ≤ 1048576 := by
    obtain ⟨fuel, hf⟩ := h1
    exact open_script (v := .slice a1 len1 cap1) (by simpa [Value.cells] using hf) (by have := bulk_mem (d := d1) (l := [d0, d1]) (by simp); show Rows.uptoBulk d1 ≤ _; omega)
  clear hA0 hval0
  subst hcs
  refine (serial_walk a b c d W ha hb hc hd (by omega) hS).mono fun e W' ⟨he, bel⟩ => ?_
  subst he
  exact ⟨_, rfl, _, _, _, [], _, [], hW', trodAll_mk1 (shut_bool Try.underlying4 _), trodAll_mk2 (Below.trod Try.laidOut (by kernel_rfl) (of_decide_eq_true (by kernel_rfl)) k0 bel lt0) (Below.trod Try.laidOut (by kernel_rfl) (of_decide_eq_true (by kernel_rfl)) k1 bel lt1), rfl, bel.frame _, fun h => by cases h⟩
theorem serial_holds : Rows.SerialUptoSaid :=
  OpenClaim.holds_of_cond 3 Try.f3 rfl rfl rfl rfl rfl rfl rfl ⟨rfl, rfl, rfl, rfl, rfl⟩ rfl rfl rfl rfl rfl (by kernel_rfl) Try.func3 (by kernel_rfl)
    (of_decide_eq_true (by kernel_rfl)) (by unfold Func.isWrapper; rw [if_neg (of_decide_eq_false (by kernel_rfl))]; exact ⟨rfl, rfl⟩)
    (fun os started H enc _ F => serial_lifted os started H enc F)
end Go.Proofs.Ytlbmcdoldnajoab
