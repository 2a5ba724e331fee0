import Derived.Test.YtlbmcdoldnajoabKFunD

namespace Go.Proofs.Ytlbmcdoldnajoab
open Go.RowKit
section
variable {o : Nat → Option Nat} {w : World} {b : Nat} {R : RM} {v : KV}
theorem again_le {N : Nat} {R : RM} (h : KOk N R) (hN : N ≤ 900000000) : R.again ≤ 6000000000 := by
  rw [h.k.again]
  have h1 := tot_bd (f := fun n => (R.d.job n).failed) (c := 6) R.d.jobs.length (fun m h1 h2 => by have := h.k.urg.few m ⟨h1, h2⟩; have := h.k.inv.conf; show (R.d.job m).failed ≤ 6; omega)
  have := h.len
  have := h.k.len
  omega
/-- behind the desk's own Pick: the note's box -/
structure Pk (o : Nat → Option Nat) (w : World) (b : Nat) (R : RM) (v : KV) (o1 : Nat → Option Nat) (nb : Nat) (k n p : Int) (X : World) (d' : DeskM) : Prop where
  now : KNow o w b o1 X { R with d := d' } v
  box : X.heap[nb]? = some (.cells #[.int .i64 k, .int .i64 n, .int .i64 p] 113 (0, 0))
  out : o1 nb = none
/-- one more has ended, ahead of the store -/
theorem endPush {o1 : Nat → Option Nat} {W w' : World} {n g cap L : Nat} {sv : Value} (hN : KNow o w b o1 W R v) (hL : L = R.order.length) (hsv : v.ov = sv) (hG : Grew W sv L (R.order.map natV) n g cap w') :
    w'.cell? ⟨b, 6, none⟩ = some sv ∧ w'.frozen? ⟨b, 6, none⟩ = false ∧ ∃ o2, KNow o w b o2 (w'.setCell ⟨b, 6, none⟩ (.slice (some ⟨g, 0, none⟩) (L + 1) cap)) { R with order := R.order ++ [n] } { v with ov := .slice (some ⟨g, 0, none⟩) (L + 1) cap } := by
  subst hsv hL
  have hx := hN.kp.pushO (X1 := (W.alloc (.cells #[.int .i64 n] 3)).drew) (((Below.refl _ _).alloc (Nat.le_refl _) _).drew) (n := n) hG.1 hG.2.1 hG.2.2
  exact ⟨hx.2.1, hx.2.2, _, hN.upd hx.1.1 (own_grow _ _ _) hx.1.2⟩
set_option maxRecDepth 100000 in
set_option maxHeartbeats 4000000 in
theorem pick_k {N : Nat} (h : KP o w b R v) (hk : KOk N R) (hN : N ≤ 900000000) {i : Nat} (hi : i < R.d.c.workers) :
    Calls Try.prog 29 #[ptrV b, .int .i64 (i : Int)] w fun e w' => KDone o w b (R.pickR i) e w' := by
  have hT := takes_k h (hk.sm hN)
  rw [takes_eq hk.k] at hT
  obtain ⟨tk, htk⟩ : ∃ tk, tk = decide (R.d.nextJob ≠ 0) := ⟨_, rfl⟩
  rw [← htk] at hT
  have HTk : Hid (tk = decide (R.d.nextJob ≠ 0)) := htk
  clear htk
  obtain ⟨hp0, hc⟩ := pick_cases hk.k.inv hi
  have hdi : DInv (R.d.pick i).1 := hk.k.inv.pick i
  have H : Hid (KP o w b R v ∧ KOk N R ∧ N ≤ 900000000 ∧ i < R.d.c.workers) := ⟨h, hk, hN, hi⟩
  have HPick : Hid (∀ W1, Below w.heap.size w W1 → Calls Try.prog 49 #[.pointer (some ⟨R.xb, 0, none⟩), .int .i64 (i : Int)] W1 fun e w' => PStepD (fun k => grow W1 o 4 k = some 4) W1 R.xb (R.d.pick i).1 (.tuple #[noteA (R.d.pick i).2.1, .int .i64 (R.d.pick i).2.2]) e w') := fun W1 hb =>
    ppick_ok (fun k => grow W1 o 4 k = some 4) W1 R.xb R.d (i : Int) (h.below hb).deskAt (hk.ask hN) (fun k hk => grow_new hk)
  rw [hp0] at HPick
  have c0 : w.cell? ⟨b, 0, none⟩ = some (.pointer (some ⟨R.xb, 0, none⟩)) := h.cell 0
  have hbl := h.lt
  have hat : R.at_.getD i 0 = (R.d.wk i).ticket := at_get hk.k hi
  have hia : i < R.at_.length := by rw [at_len hk.k]; exact hi
  have hal : R.at_.length ≤ 1000 := (hk.sm hN).at_
  have htl : R.tasks.length ≤ 900000000 := (hk.sm hN).tasks
  have hol : R.order.length ≤ 900000000 := (hk.sm hN).order
  have hag := again_le hk hN
  have HR : Hid (R.pickR i = R.pickN i (R.d.pick i).1 (R.d.pick i).2.1.1 (R.d.pick i).2.1.2.1 (R.d.pick i).2.1.2.2) := rfl
  have hlen := hk.k.len
  obtain ⟨rr, hrr⟩ : ∃ rr, rr = R.pickR i := ⟨_, rfl⟩
  rw [← hrr] at HR ⊢
  generalize (R.d.pick i).1 = d' at *
  generalize hq : (R.d.pick i).2.1 = q at *
  obtain ⟨k, n, p⟩ := q
  simp only at hc HR HPick
  unfold ptrV at *
  clear hq hrr hp0
  go_enter Try.func29, Try.ntmps29
  go_wp2_with fail
  refine hT.mono ?_
  clear hT
  rintro e W1 ⟨rfl, hb1⟩
  have HB1 : Hid (Below w.heap.size w W1) := hb1
  have c1 := (hb1.cell (p := ⟨b, 0, none⟩) hbl).trans c0
  clear c0 hb1
  go_wp2_with fail
  refine (HPick.out W1 HB1.out).mono ?_
  rintro e W2 ⟨rfl, hd, hf⟩
  have hs := (H.out.1.below HB1.out).deskStep hd hf
  have hnow0 : KNow o w b (grow W1 o 4) W2 { R with d := d' } v := ((KNow.start H.out.1).below HB1.out).upd hs.1 (own_grow _ _ _) hs.2
  have hnow : KNow o w b (cutO W2 (grow W1 o 4)) W2 { R with d := d' } v := hnow0.upd (hnow0.kp.own (own_cutO _ _)) (own_cutO _ _) (Fr.refl _ _)
  unfold noteA
  simp only
  have HPk : Hid (Pk o w b R v (cutO W2 (grow W1 o 4)) W2.heap.size k n p (W2.alloc (.cells #[.int .i64 k, .int .i64 (n : Int), .int .i64 (p : Int)] 113)) d') := ⟨hnow.below ((Below.refl _ _).alloc (Nat.le_refl _) _), heap_alloc_new _ _, cutO_new (Nat.le_refl _)⟩
  generalize cutO W2 (grow W1 o 4) = o1 at *
  clear hd hf hs HPick c1 hbl hnow hnow0 HB1
  go_upto_region 2 with fail
  refine name_wp (p := fun X => Pk o w b R v o1 W2.heap.size k n p X d') HPk.out ?_
  rintro X hX
  clear HPk
  generalize W2.heap.size = nb at hX ⊢
  clear W2 W1
  have HW : Hid (Pk o w b R v o1 nb k n p X d') := hX
  obtain ⟨n0, n1, n2, _, nl⟩ := note_box hX.box
  obtain ⟨g, cap, hpl⟩ := hX.now.kp.atPl (by show 0 < R.at_.length; omega)
  have c7 := hpl.c7
  have ca := hpl.cell i hia
  have fa := hpl.free i
  have c8 : X.cell? ⟨b, 8, none⟩ = some (.bool true) := hX.now.kp.cell 8
  have f8 := hX.now.kp.free 8
  have hob : o1 b = some 0 := (hX.now.kp.blk nX).1
  have hgb : ¬ g = b := own_ne hpl.own hob (by omega)
  have hbg : ¬ b = g := fun e => hgb e.symm
  have hnb : ¬ nb = b := fun e => by have := hX.out; rw [e, hob] at this; cases this
  have hbn : ¬ b = nb := fun e => hnb e.symm
  have hng : ¬ nb = g := fun e => by have := hX.out; rw [e, hpl.own] at this; cases this
  have hgn : ¬ g = nb := fun e => hng e.symm
  have m1 : (i : Int) < (R.at_.length : Int) := by omega
  have HAV : Hid (v.av = .slice (some ⟨g, 0, none⟩) R.at_.length cap) := hpl.av
  have hgo := hpl.own
  simp only at c7 ca
  rw [hat] at ca
  clear hpl hia
  cases hc with
  | rest h0 hn he hkk hn0 hp =>
    subst hkk hn0 hp
    rw [h0] at ca
    have e1 : tk = false := by rw [HTk.out]; exact decide_eq_false (fun h => h hn)
    subst e1
    have HR2 : Hid (rr = { R with d := d' }) := HR.out
    generalize R.at_.length = al at c7 m1 hal
    clear hX hat h0 hn he hlen hdi
    go_wp2
    go_end0
    rw [HR2.out]
    exact ⟨rfl, (HW.out.now.step HW.out.now.kp.setOk).done⟩
  | took h0 hn hn0 he hkk hp =>
    subst hkk hp
    rw [h0] at ca
    have hm := next_mem (d := R.d) (by rw [← hn]; exact hn0)
    rw [← hn] at hm
    have hhas : R.d.Has n := by
      rcases hm with hm | hm
      · exact ((H.out.2.1.k.inv.urM n).1 hm).1
      · exact ((H.out.2.1.k.inv.quM n).1 hm).1
    have m2 : (1 : Int) ≤ (n : Int) := by have := hhas.1; omega
    have m3 : (n : Int) ≤ (R.tasks.length : Int) := by have := hhas.2; omega
    have e1 : tk = true := by rw [HTk.out]; exact decide_eq_true (by rw [← hn]; exact hn0)
    subst e1
    have m2n : 1 ≤ n := hhas.1
    have m3n : n ≤ R.tasks.length := by have := hhas.2; omega
    have HR2 : Hid (rr = { R with d := d', at_ := R.at_.set i n }) := HR.out
    obtain ⟨ta, tc, htv⟩ := owns_form (hX.now.kp.tasks nX).1
    have c5 : X.cell? ⟨b, 5, none⟩ = some v.tv := hX.now.kp.cell 5
    rw [htv] at c5
    simp only at c5
    generalize R.at_.length = al at c7 m1 hal
    generalize R.tasks.length = tl at c5 m3 m3n htl
    clear hX hat h0 hn hn0 he hlen hdi hm hhas htv
    go_wp2
    go_quiet (fail)
    go_wp2
    go_region
    all_goals
      go_wp2
      go_end0
      rw [HR2.out]
      have k1 := HW.out.now.below (below_drewN (Below.refl _ X) (nq + 1))
      have k2 := k1.step (k1.kp.setAt HAV.out i n)
      exact ⟨rfl, (k2.step k2.kp.setOk).done⟩
  | step h0 hn0 he hkk hp =>
    subst hkk hp
    rw [h0] at ca
    have m2 : (0 : Int) < (n : Int) := by omega
    have m2n : 0 < n := by omega
    have HR2 : Hid (rr = { R with d := d' }) := HR.out
    generalize R.at_.length = al at c7 m1 hal
    clear hX hat h0 hn0 he hlen hdi
    go_wp2
    go_end0
    rw [HR2.out]
    exact ⟨rfl, (HW.out.now.step HW.out.now.kp.setOk).done⟩
  | good h0 hn0 st x t hx hst ht he hkk hp =>
    subst hkk hp
    rw [h0] at ca
    have m2 : (0 : Int) < (n : Int) := by omega
    have m2n : 0 < n := by omega
    have HR2 : Hid (rr = { R with d := d', at_ := R.at_.set i 0, order := R.order ++ [n] }) := HR.out
    have HOL : Hid (R.order.length ≤ 900000000) := hol
    generalize R.at_.length = al at c7 m1 hal
    clear hX hat h0 hn0 he hlen hdi hx hst ht
    go_wp2
    refine name_wp (p := fun Y => Pk o w b { R with at_ := R.at_.set i 0 } v o1 nb 3 n 0 Y d') ⟨HW.out.now.step (HW.out.now.kp.setAt HAV.out i 0), (Below.heap_setCell _ _ _ _ hng).trans HW.out.box, HW.out.out⟩ ?_
    rintro Y hY
    have HY : Hid (Pk o w b { R with at_ := R.at_.set i 0 } v o1 nb 3 n 0 Y d') := hY
    clear n0 n1 n2 nl c7 ca fa c8 f8
    obtain ⟨n0, n1, n2, _, nl⟩ := note_box hY.box
    obtain ⟨oa, oc, hov⟩ := owns_form (hY.now.kp.order nX).1
    have c6 : Y.cell? ⟨b, 6, none⟩ = some v.ov := hY.now.kp.cell 6
    have f6 := hY.now.kp.free 6
    have hbl := hY.now.kp.lt
    have hrow := (hY.now.kp.order nX).1
    rw [hov] at c6 hrow
    simp only at c6 hrow hov
    obtain ⟨L, hL⟩ : ∃ L, L = R.order.length := ⟨_, rfl⟩
    rw [← hL] at c6 hrow hov
    have HRow : Hid (Y.ownsRow 0 3 1 (.slice oa L oc) L (R.order.map natV) ∧ v.ov = .slice oa L oc ∧ L = R.order.length ∧ L ≤ 1000000000) := ⟨hrow, hov, hL, by have := HOL.out; omega⟩
    clear hY hrow hov hL
    go_region_law (refine step_int (.tmp 127) (.tmp 130) (by rfl) (by rfl) HRow.out.1 HRow.out.2.2.2 (by rfl) (by rfl) ?_; intro g1 cap1 w1 hG; obtain ⟨k3, k4, o2, hput⟩ := endPush HY.out.now HRow.out.2.2.1 HRow.out.2.1 hG; clear hG)
    all_goals
      refine name_x (p := fun Z => ∃ o2 v2, KNow o w b o2 Z rr v2) ⟨_, _, by rw [HR2.out]; exact hput⟩ ?_
      clear hput k3 k4
      rintro Z ⟨o3, v3, hZ⟩
      have HZ : Hid (KNow o w b o3 Z rr v3) := hZ
      have c8 : Z.cell? ⟨b, 8, none⟩ = some (.bool true) := hZ.kp.cell 8
      have f8 := hZ.kp.free 8
      clear hZ
      go_wp2
      go_end0
      exact ⟨rfl, (HZ.out.step HZ.out.kp.setOk).done⟩
  | fail h0 hn0 q hq hp hp3 jj hj hej heg hew hec hkk x t hx ht htp =>
    subst hkk
    rw [h0] at ca
    have m2 : (0 : Int) < (n : Int) := by omega
    have m2n : 0 < n := by omega
    have hhas := (H.out.2.1.k.inv.work i H.out.2.2.2 (by rw [h0]; exact hn0)).1
    rw [h0] at hhas
    obtain ⟨hpn, hpf⟩ := H.out.2.1.k.foe H.out.2.2.2 h0 hn0 hq hp hp3
    obtain ⟨j, hnj⟩ : ∃ j, n = j + 1 := ⟨n - 1, by omega⟩
    have hjl : j < R.tasks.length := by have := hhas.2; omega
    have hfn := H.out.2.1.k.foesN n hhas
    have hff := H.out.2.1.k.fails n hhas
    have hfw := H.out.2.1.k.urg.few n hhas
    have hcf := H.out.2.1.k.inv.conf
    have hp3' : d'.Has p ∧ (d'.job p).state = 3 := by
      have e1 : d'.job p = R.d.job p := by
        have : d'.job p = (R.d.setJob n jj).job p := by unfold DeskM.job; rw [hej]
        rw [this, job_set hhas hp3.1.1, if_neg hpn]
      exact ⟨by unfold DeskM.Has; rw [hej, set_len]; exact hp3.1, by rw [e1]; exact hp3.2⟩
    have hdl : d'.jobs.length = R.tasks.length := by rw [hej, set_len, hlen]
    obtain ⟨R3, hR3⟩ : ∃ R3 : RM, R3 = { R with d := d', at_ := R.at_.set i 0, again := R.again + 1, tasks := R.tasks.set j { R.tk n with fails := (R.tk n).fails + 1 } } := ⟨_, rfl⟩
    have hR3t : R3.tk n = { R.tk n with fails := (R.tk n).fails + 1 } := by
      rw [hR3, RM.tk, hnj]
      simp [List.getD, hjl]
    have HR3 : Hid (rr = { R3 with tasks := R3.tasks.set j { R3.tk n with foes := (R3.tk n).foes ++ [p] } }) := by
      have e2 : rr = { R with d := d', at_ := R.at_.set i 0, again := R.again + 1, tasks := R.tasks.set (n - 1) { R.tk n with fails := (R.tk n).fails + 1, foes := (R.tk n).foes ++ [p] } } := HR.out
      show _ = _
      rw [e2, hR3t, hR3]
      simp only [List.set_set, show n - 1 = j by omega]
    have HFoe : Hid (∀ (o4 : Nat → Option Nat) (Y : World) (v4 : KV), KP o4 Y b R3 v4 → Calls Try.prog 50 #[.pointer (some ⟨b, 0, none⟩), .agg #[.int .i64 4, .int .i64 (n : Int), .int .i64 (p : Int)]] Y fun e w' => KDone o4 Y b rr e w') := fun o4 Y v4 hY => by
      have hf := foe_k (j := j) (p := p) hY (by rw [hR3]; exact hdi) (by rw [hR3]; simpa using hjl) (by rw [hR3]; simpa using htl) (by rw [hR3]; show d'.jobs.length ≤ _; omega) (by rw [hR3]; exact hp3'.1) (by rw [hR3]; exact hp3'.2) (by rw [← hnj]; exact hpn) (by rw [← hnj, hR3t]; exact hpf) (by rw [← hnj, hR3t]; show (R.tk n).foes.length ≤ 1000; omega)
      rw [← hnj] at hf
      rw [HR3.out]
      exact hf
    obtain ⟨gt, tcap, tb, htp'⟩ := hX.now.kp.tkPl (j := j) hjl
    have c5 := htp'.c5
    have cp := htp'.cell
    have ck : X.cell? ⟨tb, 2, none⟩ = some (.int .i64 ((R.tk n).fails : Int)) := by rw [hnj]; exact htp'.tcell 2
    have ft := htp'.tfree 2
    have q1 : ¬ gt = g := own_ne htp'.own hgo (by omega)
    have q2 : ¬ g = gt := fun e => q1 e.symm
    have q3 : ¬ gt = b := own_ne htp'.own hob (by omega)
    have q4 : ¬ b = gt := fun e => q3 e.symm
    have q5 : ¬ tb = g := own_ne htp'.town hgo (by omega)
    have q6 : ¬ g = tb := fun e => q5 e.symm
    have q7 : ¬ tb = b := own_ne htp'.town hob (by omega)
    have q8 : ¬ b = tb := fun e => q7 e.symm
    have q9 : ¬ tb = gt := own_ne htp'.town htp'.own (by omega)
    have q10 : ¬ gt = tb := fun e => q9 e.symm
    have q11 : ¬ nb = gt := fun e => by have := hX.out; rw [e, htp'.own] at this; cases this
    have q12 : ¬ gt = nb := fun e => q11 e.symm
    have q13 : ¬ nb = tb := fun e => by have := hX.out; rw [e, htp'.town] at this; cases this
    have q14 : ¬ tb = nb := fun e => q13 e.symm
    have HTB : Hid (tb = v.tb.getD j 0 ∧ j < R.tasks.length ∧ n = j + 1) := ⟨htp'.tbe, hjl, hnj⟩
    have c10 : X.cell? ⟨b, 10, none⟩ = some (.int .i64 (R.again : Int)) := hX.now.kp.cell 10
    have f10 := hX.now.kp.free 10
    simp only at c5
    have hwr : IntKind.i64.wrap ((n : Int) - 1) = (j : Int) := by rw [IntKind.wrap_i64]; omega
    have hwa : IntKind.i64.wrap ((R.again : Int) + 1) = ((R.again + 1 : Nat) : Int) := by rw [IntKind.wrap_i64]; omega
    have hwf : IntKind.i64.wrap (((R.tk n).fails : Int) + 1) = (((R.tk n).fails + 1 : Nat) : Int) := by rw [IntKind.wrap_i64]; omega
    have m4 : (j : Int) < (R.tasks.length : Int) := by omega
    have HNow : Hid (KNow o w b o1 (((X.setCell ⟨g, i, none⟩ (.int .i64 0)).setCell ⟨b, 10, none⟩ (.int .i64 ((R.again + 1 : Nat) : Int))).setCell ⟨tb, 2, none⟩ (.int .i64 (((R.tk n).fails + 1 : Nat) : Int))) R3 v) := by
      have k1 := HW.out.now.step (HW.out.now.kp.setAt HAV.out i 0)
      have k2 := k1.step (k1.kp.setAgain (R.again + 1))
      have k3 := k2.step (k2.kp.setTk (i := j) hjl (c := 2) (x := .int .i64 (((R.tk n).fails + 1 : Nat) : Int)) (t' := { R.tk n with fails := (R.tk n).fails + 1 }) (by rw [hnj]; rfl) (by rw [hnj]; rfl) (by rw [hnj]; rfl))
      rw [← HTB.out.1] at k3
      rw [hR3]
      exact k3
    generalize R.at_.length = al at c7 m1 hal
    generalize R.tasks.length = tl at c5 m4 htl
    generalize (R.tk n).fails + 1 = fl1 at hwf HNow
    generalize (R.tk n).fails = fl at ck hwf
    generalize R.again + 1 = ag1 at hwa HNow
    generalize R.again = ag at c10 hwa hag
    clear hX hat h0 hn0 hlen hdi hx ht htp htp' hR3 hR3t hdl hp3 hp3' hcf hfw hff hfn hjl hnj hpn hpf hhas hq hp hej heg hew hec hj
    go_wp2_with fail
    refine name_calls (p := fun Y => KNow o w b o1 Y R3 v) HNow.out ?_
    clear HNow
    rintro Y hY
    have HY : Hid (KNow o w b o1 Y R3 v) := hY
    refine (HFoe.out _ _ _ hY.kp).mono ?_
    clear hY HFoe
    rintro e Z ⟨rfl, hs⟩
    obtain ⟨o3, v3, hZ⟩ := HY.out.stp hs
    have HZ : Hid (KNow o w b o3 Z rr v3) := hZ
    clear n0 n1 n2 nl c7 ca fa c8 f8 c5 cp ck ft c10 f10 hs
    have c8 : Z.cell? ⟨b, 8, none⟩ = some (.bool true) := hZ.kp.cell 8
    have f8 := hZ.kp.free 8
    clear hZ
    go_wp2
    go_end0
    exact ⟨rfl, (HZ.out.step HZ.out.kp.setOk).done⟩
end
end Go.Proofs.Ytlbmcdoldnajoab
