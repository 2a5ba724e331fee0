import Derived.Test.YtlbmcdoldnajoabKFunE

namespace Go.Proofs.Ytlbmcdoldnajoab
open Go.RowKit
/-- the first k places: those that hold n are empty now -/
def cutN (l : List Nat) (n k : Nat) : List Nat := (l.take k).map (fun m => if m = n then 0 else m) ++ l.drop k
theorem cutN_len (l : List Nat) (n k : Nat) : (cutN l n k).length = l.length := by
  unfold cutN
  simp
  omega
theorem cutN_zero (l : List Nat) (n : Nat) : cutN l n 0 = l := by simp [cutN]
theorem cutN_all (l : List Nat) (n : Nat) : cutN l n l.length = l.map fun m => if m = n then 0 else m := by simp [cutN]
theorem cutN_get (l : List Nat) (n : Nat) {k : Nat} (hk : k < l.length) : (cutN l n k).getD k 0 = l.getD k 0 := by
  have h1 : ((l.take k).map fun m => if m = n then 0 else m).length = k := by simp; omega
  unfold cutN
  simp only [List.getD]
  rw [List.getElem?_append_right (by omega), h1]
  simp
theorem cutN_ext (l : List Nat) (n k : Nat) (hk : k < l.length) : cutN l n (k + 1) = (cutN l n k).set k (if l.getD k 0 = n then 0 else l.getD k 0) := by
  have h1 : ((l.take k).map fun m => if m = n then 0 else m).length = k := by simp; omega
  have e : l.getD k 0 = l[k] := by simp [List.getD, hk]
  unfold cutN
  rw [List.set_append_right _ _ (by omega), h1, Nat.sub_self, List.take_succ_eq_append_getElem hk, List.map_append, List.append_assoc, e, List.drop_eq_getElem_cons hk]
  rfl
theorem cutN_hit (l : List Nat) (n : Nat) {k : Nat} (hk : k < l.length) (h : l.getD k 0 = n) : cutN l n (k + 1) = (cutN l n k).set k 0 := by rw [cutN_ext l n k hk, if_pos h]
theorem cutN_miss (l : List Nat) (n : Nat) {k : Nat} (hk : k < l.length) (h : l.getD k 0 ≠ n) : cutN l n (k + 1) = cutN l n k := by
  rw [cutN_ext l n k hk, if_neg h, ← cutN_get l n hk]
  have hl : k < (cutN l n k).length := by rw [cutN_len]; exact hk
  have : (cutN l n k).getD k 0 = (cutN l n k)[k] := by simp [List.getD, hl]
  rw [this, List.set_getElem_self]
theorem cancel_err {d : DeskM} {n : Nat} (hn : d.Has n) : (d.cancel n).2 = if 2 < (d.job n).state then 9 else 0 := by
  have h1 := hn.1
  have h2 := hn.2
  unfold DeskM.cancel
  rw [if_neg (by simp [DeskM.ticketB]; omega), Int.toNat_natCast]
  split <;> rfl
theorem cancel_none {d : DeskM} {n : Nat} (hn : d.Has n) (h : 2 < (d.job n).state) : (d.cancel n).1 = d := by
  have h1 := hn.1
  have h2 := hn.2
  unfold DeskM.cancel
  rw [if_neg (by simp [DeskM.ticketB]; omega), Int.toNat_natCast, if_pos h]
section
variable {o : Nat → Option Nat} {w : World} {b : Nat} {R : RM} {v : KV}
set_option maxRecDepth 100000 in
set_option maxHeartbeats 4000000 in
theorem cancel_k {N : Nat} (h : KP o w b R v) (hk : KOk N R) (hN : N ≤ 900000000) {n : Nat} (hn : R.d.Has n) :
    Calls Try.prog 34 #[ptrV b, .int .i64 (n : Int)] w fun e w' => KDone o w b (R.cancelR n) e w' := by
  have hD := done_k h (hk.sm hN) hn.1 (by rw [hk.k.len]; exact hn.2)
  rw [done_eq hk.k hn] at hD
  have hC := pcancel_ok (fun k => grow w o 4 k = some 4) w R.xb R.d (n : Int) h.deskAt (hk.ask hN) (fun k hk => grow_new hk)
  rw [cancel_err hn] at hC
  have c0 : w.cell? ⟨b, 0, none⟩ = some (.pointer (some ⟨R.xb, 0, none⟩)) := h.cell 0
  have H : Hid (KP o w b R v) := h
  have hal : R.at_.length ≤ 1000 := (hk.sm hN).at_
  have htl : R.tasks.length ≤ 900000000 := (hk.sm hN).tasks
  have h0a : 0 < R.at_.length := by rw [at_len hk.k]; have := hk.k.inv.conf; omega
  have hj1 := hn.1
  have hj2 : n ≤ R.tasks.length := by rw [hk.k.len]; exact hn.2
  have HA : Hid (0 < R.at_.length) := h0a
  unfold ptrV at *
  by_cases h2 : 2 < (R.d.job n).state
  · rw [decide_eq_true h2] at hD
    rw [if_pos h2] at hC
    have HR : Hid (R.cancelR n = R ∧ (R.d.cancel n).1 = R.d) := ⟨by unfold RM.cancelR; rw [if_pos h2], cancel_none hn h2⟩
    rw [HR.out.2] at hC
    clear h hk hn h2
    go_enter Try.func34, Try.ntmps34
    go_wp2_with fail
    refine hD.mono ?_
    clear hD
    rintro e W1 ⟨rfl, hW⟩
    obtain rfl := hW.symm
    clear hW
    go_wp2_with fail
    refine hC.mono ?_
    clear hC c0
    rintro e W1 ⟨rfl, hd, hf⟩
    have hs := H.out.deskStep hd hf
    have HW : Hid (KNow o w b (grow w o 4) W1 R v) := (KNow.start H.out).upd hs.1 (own_grow _ _ _) hs.2
    clear hd hf hs H
    have c8 : W1.cell? ⟨b, 8, none⟩ = some (.bool true) := HW.out.kp.cell 8
    have f8 := HW.out.kp.free 8
    go_wp2
    go_end0
    rw [HR.out.1]
    exact ⟨rfl, (HW.out.step HW.out.kp.setOk).done⟩
  · rw [decide_eq_false h2] at hD
    rw [if_neg h2] at hC
    obtain ⟨j, hnj⟩ : ∃ j, n = j + 1 := ⟨n - 1, by omega⟩
    obtain ⟨d', hd'⟩ : ∃ d', d' = (R.d.cancel n).1 := ⟨_, rfl⟩
    rw [← hd'] at hC
    obtain ⟨R2, hR2⟩ : ∃ R2 : RM, R2 = { R with d := d', tasks := R.tasks.set j { R.tk n with gone := true } } := ⟨_, rfl⟩
    have HR : Hid (R.cancelR n = { R2 with at_ := cutN R2.at_ n R2.at_.length }) := by
      show _ = _
      unfold RM.cancelR
      rw [if_neg h2, cutN_all, hR2, ← hd', show n - 1 = j by omega]
    have HR2 : Hid (R2.at_ = R.at_ ∧ R2 = { R2 with at_ := cutN R2.at_ n 0 }) := ⟨by rw [hR2], by rw [cutN_zero]⟩
    have hjl : j < R.tasks.length := by omega
    have hwr : IntKind.i64.wrap ((n : Int) - 1) = (j : Int) := by rw [IntKind.wrap_i64]; omega
    have m2 : (j : Int) < (R.tasks.length : Int) := by omega
    have HJ : Hid (j < R.tasks.length ∧ n = j + 1) := ⟨hjl, hnj⟩
    have HRR : Hid (R2 = { R with d := d', tasks := R.tasks.set j { R.tk n with gone := true } }) := hR2
    clear h hk hn h2 hd' hnj hR2
    go_enter Try.func34, Try.ntmps34
    go_wp2_with fail
    refine hD.mono ?_
    clear hD
    rintro e W1 ⟨rfl, hW⟩
    obtain rfl := hW.symm
    clear hW
    go_wp2_with fail
    refine hC.mono ?_
    clear hC c0
    rintro e W1 ⟨rfl, hd, hf⟩
    have hs := H.out.deskStep hd hf
    have hW : KNow o w b (grow w o 4) W1 { R with d := d' } v := (KNow.start H.out).upd hs.1 (own_grow _ _ _) hs.2
    clear hd hf hs H
    generalize grow w o 4 = o1 at hW
    have HW : Hid (KNow o w b o1 W1 { R with d := d' } v) := hW
    have c8 : W1.cell? ⟨b, 8, none⟩ = some (.bool true) := hW.kp.cell 8
    have f8 := hW.kp.free 8
    obtain ⟨gt, tcap, tb, htp⟩ := hW.kp.tkPl (j := j) hjl
    have c5 := htp.c5
    have cp := htp.cell
    have ck : W1.cell? ⟨tb, 3, none⟩ = some (.bool (R.tk n).gone) := by rw [HJ.out.2]; exact htp.tcell 3
    have ft := htp.tfree 3
    have q3 : ¬ gt = b := own_ne htp.own (hW.kp.blk nX).1 (by omega)
    have q4 : ¬ b = gt := fun e => q3 e.symm
    have q7 : ¬ tb = b := own_ne htp.town (hW.kp.blk nX).1 (by omega)
    have q8 : ¬ b = tb := fun e => q7 e.symm
    have q9 : ¬ tb = gt := own_ne htp.town htp.own (by omega)
    have q10 : ¬ gt = tb := fun e => q9 e.symm
    have HTB : Hid (tb = v.tb.getD j 0) := htp.tbe
    simp only at c5
    have HX : Hid (KNow o w b o1 ((W1.setCell ⟨b, 8, none⟩ (.bool true)).setCell ⟨tb, 3, none⟩ (.bool true)) { R2 with at_ := cutN R2.at_ n 0 } v) := by
      have k1 := hW.step hW.kp.setOk
      have k2 := k1.step (k1.kp.setTk (i := j) hjl (c := 3) (x := .bool true) (t' := { R.tk n with gone := true }) (by rw [HJ.out.2]; rfl) (by rw [HJ.out.2]; rfl) (by rw [HJ.out.2]; rfl))
      rw [← HTB.out] at k2
      rw [← HR2.out.2, HRR.out]
      exact k2
    obtain ⟨al, hal'⟩ : ∃ al, al = R2.at_.length := ⟨_, rfl⟩
    have hal2 : al ≤ 1000 := by rw [hal', HR2.out.1]; exact hal
    have HAL : Hid (al = R2.at_.length ∧ 0 < al) := ⟨hal', by rw [hal', HR2.out.1]; exact HA.out⟩
    generalize R.tasks.length = tl at c5 m2 htl
    clear hW htp hjl hal' hj2 hj1 h0a hal
    go_wp2
    go_loopw [6] (fun x wr => ∃ k : Nat, k ≤ al ∧ x = .int .i64 k ∧ KNow o w b o1 wr { R2 with at_ := cutN R2.at_ n k } v) (fun x _ => al - (intOf x).toNat)
    case atStart => exact ⟨0, Nat.zero_le _, rfl, HX.out⟩
    case round =>
      obtain ⟨k, hk, rfl, hkn⟩ := hrel
      have HK : Hid (KNow o w b o1 wr { R2 with at_ := cutN R2.at_ n k } v) := hkn
      have hlen : ({ R2 with at_ := cutN R2.at_ n k } : RM).at_.length = al := by rw [HAL.out.1]; exact cutN_len _ _ _
      obtain ⟨g, cap, hpl⟩ := hkn.kp.atPl (by rw [hlen]; exact HAL.out.2)
      have c7 := hpl.c7
      rw [hlen] at c7
      have HAV : Hid (v.av = .slice (some ⟨g, 0, none⟩) ({ R2 with at_ := cutN R2.at_ n k } : RM).at_.length cap) := hpl.av
      by_cases hlt : k < al
      · have hkl : k < R2.at_.length := by rw [← HAL.out.1]; exact hlt
        have ca := hpl.cell k (by rw [hlen]; exact hlt)
        have fa := hpl.free k
        have m1 : (k : Int) < (al : Int) := by omega
        have e1 : ({ R2 with at_ := cutN R2.at_ n k } : RM).at_.getD k 0 = R2.at_.getD k 0 := cutN_get _ _ hkl
        rw [e1] at ca
        obtain ⟨tn, htn⟩ : ∃ tn, tn = R2.at_.getD k 0 := ⟨_, rfl⟩
        rw [← htn] at ca
        have HTN : Hid (R2.at_.getD k 0 = tn ∧ k < R2.at_.length) := ⟨htn.symm, hkl⟩
        clear hkn hlen hpl hkl e1 htn
        by_cases he : tn = n
        · subst he
          have HN2 : Hid (KNow o w b o1 (wr.setCell ⟨g, k, none⟩ (.int .i64 0)) { R2 with at_ := cutN R2.at_ tn (k + 1) } v) := by
            rw [cutN_hit _ _ HTN.out.2 HTN.out.1]
            exact HK.out.step (HK.out.kp.setAt HAV.out k 0)
          go_wp2
          go_roundw
          case rel => exact ⟨k + 1, by omega, by go_num, HN2.out⟩
          case measure => simp [intOf]; omega
        · have m5 : ¬ (tn : Int) = (n : Int) := by omega
          have HN2 : Hid (KNow o w b o1 wr { R2 with at_ := cutN R2.at_ n (k + 1) } v) := by
            rw [cutN_miss _ _ HTN.out.2 (by rw [HTN.out.1]; exact he)]
            exact HK.out
          go_wp2
          go_roundw
          case rel => exact ⟨k + 1, by omega, by go_num, HN2.out⟩
          case measure => simp [intOf]; omega
      · obtain rfl : k = al := by omega
        clear hkn hlen hpl
        go_wp2
        go_end0
        rw [HR.out, ← HAL.out.1]
        exact ⟨rfl, HK.out.done⟩
end
end Go.Proofs.Ytlbmcdoldnajoab
namespace Go.Proofs.Ytlbmcdoldnajoab
open Go.RowKit
section
variable {o : Nat → Option Nat} {w : World} {b : Nat} {R : RM} {v : KV}
theorem Try.infoTask : (Try.prog.info? 57).map (fun i => (i.zero, i.size, i.bytes)) = some (some (.pointer none), 1, 8) := by kernel_rfl
/-- one task more, ahead of the store -/
theorem taskPush {o1 : Nat → Option Nat} {Y w' : World} {l : List St} {sv : Value} {g cap tl : Nat} {tv : Value} (hN : KNow o w b o1 Y R v) (htl : tl = R.tasks.length) (htv : v.tv = tv) (hst : Row o1 (6 + 3 * R.tasks.length) Y 78 4 sv l.length (stCells l))
    (hown : w'.ownsRow 0 57 1 (.slice (some ⟨g, 0, none⟩) (tl + 1) cap) (tl + 1) (v.tb.map ptrV ++ [.pointer (some ⟨Y.heap.size, 0, none⟩)]))
    (hgrow : ((Y.alloc (.cells #[sv, .int .i64 0, .int .i64 0, .bool false, .slice none 0 0] 56)).alloc (.cells #[.pointer (some ⟨Y.heap.size, 0, none⟩)] 57)).grownBy w' tv.ownBlock) (hat : tv.ownBlock = some g ∨ Y.heap.size + 2 ≤ g) :
    w'.cell? ⟨b, 5, none⟩ = some tv ∧ w'.frozen? ⟨b, 5, none⟩ = false ∧ KStp o w b { R with tasks := R.tasks ++ [⟨l, 0, 0, false, []⟩] } (w'.setCell ⟨b, 5, none⟩ (.slice (some ⟨g, 0, none⟩) (tl + 1) cap)) := by
  subst htl htv
  have hr := hN.kp.tasks nX
  have hf : Fr (fun k => o1 k = some 1) Y w' := (((Fr.refl _ Y).alloc _).alloc _).grown hgrow (fun k hk _ => hr.2 k hk)
  have hnb : ¬ o1 b = some 1 := by rw [(hN.kp.blk nX).1]; simp
  obtain ⟨o2, ho2⟩ : ∃ o2 : Nat → Option Nat, o2 = fun k => if k < Y.heap.size then o1 k else if k = Y.heap.size then some (5 + 3 * R.tasks.length) else some 1 := ⟨_, rfl⟩
  have hown2 : Own Y o1 o2 := fun k hk => by rw [ho2]; simp only; rw [if_pos hk]
  have hjb : w'.heap[Y.heap.size]? = some (.cells #[sv, .int .i64 0, .int .i64 0, .bool false, .slice none 0 0] 56 (0, 0)) := by
    refine (hgrow.block Y.heap.size (by simp; omega) (fun e => ?_)).trans (new0E _ _ _)
    have := (owns_lt hr.1 e.symm).2
    omega
  have hx := hN.kp.addTask (o' := o2) (w1 := w') hown2 (jb := Y.heap.size) (x := .slice (some ⟨g, 0, none⟩) (R.tasks.length + 1) cap) (sv := sv) (l := l) ⟨by rw [ho2]; simp, hjb⟩ (hst.keep hf (fun k hk e => by rw [hk] at e; injection e with e; omega) hown2) ⟨hown, fun k hk => by
    injection hk with hk
    have hk : g = k := hk
    subst hk
    rcases hat with e | e
    · rw [hown2 g (owns_lt hr.1 e).2]; exact hr.2 g e
    · rw [ho2]; simp only; rw [if_neg (by omega), if_neg (by omega)]⟩ hf
  exact ⟨(hf.cell hN.kp.lt hnb).trans (hN.kp.cell 5), (hf.frozen hN.kp.lt hnb).trans (hN.kp.free 5), (hN.upd hx.1 hown2 hx.2).done⟩
set_option maxRecDepth 100000 in
set_option maxHeartbeats 1000000 in
theorem say_k {N : Nat} (h : KP o w b R v) (hk : KOk N R) (hN : N ≤ 900000000) {l : List St} (hl : jobB l = true) {sv : Value} (hs : Row o (6 + 3 * R.tasks.length) w 78 4 sv l.length (stCells l)) :
    Calls Try.prog 28 #[ptrV b, sv] w fun e w' => KDone o w b (R.sayR l) e w' := by
  have H : Hid (KP o w b R v ∧ KOk N R ∧ N ≤ 900000000) := ⟨h, hk, hN⟩
  have HS : Hid (Row o (6 + 3 * R.tasks.length) w 78 4 sv l.length (stCells l)) := hs
  have HWt : Hid (∀ k, Calls Try.prog 46 #[.pointer (some ⟨b, 0, none⟩)] (w.drewN k) fun e w' => e = .returned (.int .i64 (R.d.waiting : Int)) ∧ ∃ m, w' = (w.drewN k).drewN m) := fun k => by
    have := waiting_q (h.below (below_drewN (Below.refl _ w) k)) (hk.sm hN)
    rw [wait_eq hk.k] at this
    exact this
  have HSub : Hid (∀ X, Below w.heap.size w X → Calls Try.prog 47 #[.pointer (some ⟨R.xb, 0, none⟩), sv] X fun e w' => PStepD (fun k => grow X o 4 k = some 4) X R.xb (R.d.submit l).1 (.tuple #[.int .i64 ((R.d.submit l).2.1 : Int), .int .i64 (R.d.submit l).2.2]) e w') := fun X hb =>
    psubmit_ok (fun k => grow X o 4 k = some 4) X R.xb R.d sv l (h.below hb).deskAt (hk.ask hN) (stepsV_own (owns_keep hs.1 hb)) (fun k hk => grow_new hk)
  have c2 : w.cell? ⟨b, 2, none⟩ = some (.int .i64 (R.c.queue : Int)) := h.cell 2
  have hcq : R.c.queue = R.d.c.queue := by rw [hk.k.conf]
  rw [hcq] at c2
  obtain ⟨sa, sc, hsv⟩ := owns_form hs.1
  have htl : R.tasks.length ≤ 900000000 := (hk.sm hN).tasks
  have hlen := hk.k.len
  have hsub : R.d.submit l = if R.d.c.queue ≤ R.d.waiting then (R.d, 0, 5) else ((R.d.submit l).1, R.d.jobs.length + 1, 0) := by
    by_cases hq : R.d.c.queue ≤ R.d.waiting
    · rw [if_pos hq]; unfold DeskM.submit; rw [if_neg (by rw [hl]; simp), if_pos hq]
    · rw [if_neg hq]; unfold DeskM.submit; rw [if_neg (by rw [hl]; simp), if_neg hq]
  have HR : Hid (R.sayR l = if R.d.c.queue ≤ R.d.waiting then R else { R with d := (R.d.submit l).1, tasks := R.tasks ++ [⟨l, 0, 0, false, []⟩] }) := rfl
  unfold ptrV
  by_cases hq : R.d.c.queue ≤ R.d.waiting
  · rw [if_pos hq] at hsub HR
    rw [hsub] at HSub
    have m1 : (R.d.c.queue : Int) ≤ (R.d.waiting : Int) := by omega
    generalize R.d.c.queue = qu at c2 m1 hq
    generalize R.d.waiting = wa at HWt m1 hq
    subst hsv
    clear h hk hN hs hsub hcq hlen
    go_enter Try.func28, Try.ntmps28
    go_wp2
    go_quiet ((go_at_call 46; exact Calls.quiet_of (HWt.out _)))
    refine name_x (p := fun X => Below w.heap.size w X) (below_drewN (Below.refl _ _) _) ?_
    rintro X hX
    have HX : Hid (Below w.heap.size w X) := hX
    have c0 : X.cell? ⟨b, 0, none⟩ = some (.pointer (some ⟨R.xb, 0, none⟩)) := (H.out.1.below hX).cell 0
    clear hX c2 HWt
    go_wp2_with fail
    refine (HSub.out X HX.out).mono ?_
    rintro e W2 ⟨rfl, hd, hf⟩
    have hs := (H.out.1.below HX.out).deskStep hd hf
    have HW : Hid (KNow o w b (grow X o 4) W2 R v) := ((KNow.start H.out.1).below HX.out).upd hs.1 (own_grow _ _ _) hs.2
    clear hd hf hs HSub c0
    have c8 : W2.cell? ⟨b, 8, none⟩ = some (.bool true) := HW.out.kp.cell 8
    have f8 := HW.out.kp.free 8
    go_wp2
    go_end0
    rw [HR.out]
    exact ⟨rfl, (HW.out.step HW.out.kp.setOk).done⟩
  · rw [if_neg hq] at hsub HR
    obtain ⟨d', hd'⟩ : ∃ d', d' = (R.d.submit l).1 := ⟨_, rfl⟩
    have h1 : (R.d.submit l).2.1 = R.tasks.length + 1 := by rw [hsub, hlen]
    have h2 : (R.d.submit l).2.2 = 0 := by rw [hsub]
    rw [h1, h2, ← hd'] at HSub
    rw [← hd'] at HR
    have m1 : ¬ (R.d.c.queue : Int) ≤ (R.d.waiting : Int) := by omega
    generalize R.d.c.queue = qu at c2 m1 hq
    generalize R.d.waiting = wa at HWt m1 hq
    obtain ⟨i0, hii, hz0, hz1, hz2⟩ := info_parts Try.infoTask
    obtain ⟨ln, hln⟩ : ∃ ln, ln = l.length := ⟨_, rfl⟩
    rw [← hln] at hsv
    obtain ⟨z, hz⟩ : ∃ z : Int, z = ((R.tasks.length + 1 : Nat) : Int) := ⟨_, rfl⟩
    rw [← hz] at HSub
    have hwz : IntKind.i64.wrap ((R.tasks.length : Int) + 1) = z := by rw [IntKind.wrap_i64]; omega
    subst hsv
    clear h hk hN hs hsub hcq hlen hd' h1 h2 hz hln
    go_enter Try.func28, Try.ntmps28
    go_wp2
    go_quiet ((go_at_call 46; exact Calls.quiet_of (HWt.out _)))
    refine name_x (p := fun X => Below w.heap.size w X) (below_drewN (Below.refl _ _) _) ?_
    rintro X hX
    have HX : Hid (Below w.heap.size w X) := hX
    have c0 : X.cell? ⟨b, 0, none⟩ = some (.pointer (some ⟨R.xb, 0, none⟩)) := (H.out.1.below hX).cell 0
    clear hX c2 HWt
    go_wp2_with fail
    refine (HSub.out X HX.out).mono ?_
    rintro e W2 ⟨rfl, hd, hf⟩
    have hs := (H.out.1.below HX.out).deskStep hd hf
    have hW : KNow o w b (grow X o 4) W2 { R with d := d' } v := ((KNow.start H.out.1).below HX.out).upd hs.1 (own_grow _ _ _) hs.2
    have hf2 : Fr (fun k => o k = some 4) X W2 := hf.mono (fun k hk e => by rw [own_grow X o 4 k hk] at e; exact e)
    have hrw : Row (grow X o 4) (6 + 3 * R.tasks.length) W2 78 4 (.slice sa ln sc) l.length (stCells l) :=
      (HS.out.keep (o' := o) (R := fun _ => False) (Fr.of_below HX.out) (fun _ _ h => h) (Own.refl _ _)).keep hf2 (fun k hk e => by rw [hk] at e; injection e with e; omega) (own_grow X o 4)
    generalize grow X o 4 = o1 at hW hrw
    have k1 := hW.step hW.kp.setOk
    have hrw2 : Row o1 (6 + 3 * R.tasks.length) (W2.setCell ⟨b, 8, none⟩ (.bool true)) 78 4 (.slice sa ln sc) l.length (stCells l) :=
      hrw.keep (R := fun k => k = b) ((Fr.refl (fun k => k = b) W2).setCell (p := ⟨b, 8, none⟩) (fun _ => rfl) _) (fun k hk e => by subst e; rw [(hW.kp.blk nX).1] at hk; injection hk with hk; omega) (Own.refl _ _)
    have HY : Hid (KNow o w b o1 (W2.setCell ⟨b, 8, none⟩ (.bool true)) { R with d := d' } v ∧ Row o1 (6 + 3 * R.tasks.length) (W2.setCell ⟨b, 8, none⟩ (.bool true)) 78 4 (.slice sa ln sc) l.length (stCells l)) := ⟨k1, hrw2⟩
    have c8 : W2.cell? ⟨b, 8, none⟩ = some (.bool true) := hW.kp.cell 8
    have f8 := hW.kp.free 8
    obtain ⟨ta, tc, htv⟩ := owns_form (hW.kp.tasks nX).1
    have c5 : W2.cell? ⟨b, 5, none⟩ = some v.tv := hW.kp.cell 5
    rw [htv] at c5
    simp only at c5 htv
    obtain ⟨tl, htl'⟩ : ∃ tl, tl = R.tasks.length := ⟨_, rfl⟩
    rw [← htl'] at c5 hwz htl htv
    have HTV : Hid (v.tv = .slice ta tl tc ∧ tl = R.tasks.length) := ⟨htv, htl'⟩
    have hbl := hW.kp.lt
    clear hd hf hs HSub c0 hW hf2 hrw hrw2 k1 htl' htv
    go_upto_region 5 with fail
    refine name_wp (p := fun Y => KNow o w b o1 Y { R with d := d' } v ∧ Row o1 (6 + 3 * R.tasks.length) Y 78 4 (.slice sa ln sc) l.length (stCells l)) HY.out ?_
    clear HY c8 f8 c5 hbl
    rintro Y hY
    have HY : Hid (KNow o w b o1 Y { R with d := d' } v ∧ Row o1 (6 + 3 * R.tasks.length) Y 78 4 (.slice sa ln sc) l.length (stCells l)) := hY
    have c5 : Y.cell? ⟨b, 5, none⟩ = some v.tv := hY.1.kp.cell 5
    rw [HTV.out.1] at c5
    have hbl := hY.1.kp.lt
    have hrow := (hY.1.kp.tasks nX).1
    rw [HTV.out.1] at hrow
    simp only at hrow
    rw [← HTV.out.2] at hrow
    have HRow : Hid (Y.ownsRow 0 57 1 (.slice ta tl tc) tl (v.tb.map ptrV)) := hrow
    clear hY hrow
    go_wp2_with (at_builtin; refine wpList_append_lies _ (by rfl) _ _ 31 (by rfl) 0 57 i0 _ 1 8 Try.underlying31 hii hz0 hz1 hz2 (by rfl) (by decide) _ _ _ (by rfl) ((HRow.out.alloc _).alloc _) ⟨Y.heap.size + 1, 0, none⟩ 1 1 [.pointer (some ⟨Y.heap.size, 0, none⟩)] (by rfl) (by rfl) ?_ ?_ (by decide) ?_ ?_ ?_ _ (by rfl) ?_)
    · exact World.news_of_block (new1E _ _ _)
    · intro u hu; simp at hu; subst hu; rfl
    · unfold maxLen; omega
    · omega
    · exact Nat.zero_le _
    · intro g cap w' hown hgrow hat _
      obtain ⟨k3, k4, hput⟩ := taskPush HY.out.1 HTV.out.2 HTV.out.1 HY.out.2 hown hgrow (hat.imp_right (fun e => by first | omega | (simp at e; omega)))
      have HP : Hid (KStp o w b (R.sayR l) (w'.setCell ⟨b, 5, none⟩ (.slice (some ⟨g, 0, none⟩) (tl + 1) cap))) := by rw [HR.out]; exact hput
      clear hown hgrow hat hput c5
      go_wp2
      go_end0
      exact ⟨rfl, HP.out⟩
end
end Go.Proofs.Ytlbmcdoldnajoab
