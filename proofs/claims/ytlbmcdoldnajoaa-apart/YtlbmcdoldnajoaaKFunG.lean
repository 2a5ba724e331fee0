import Derived.Test.YtlbmcdoldnajoaaKFunE

namespace Go.Proofs.Ytlbmcdoldnajoaa
open Go.RowKit
section
variable {o : Nat → Option Nat} {w : World} {b : Nat} {R : RM} {v : KV}
theorem Try.infoTask : (Try.prog.info? 78).map (fun i => (i.zero, i.size, i.bytes)) = some (some (.pointer none), 1, 8) := by kernel_rfl
/-- one task more, ahead of the store -/
theorem taskPush {o1 : Nat → Option Nat} {Y w' : World} {l : List St} {sv : Value} {g cap tl : Nat} {tv : Value} (hN : KNow o w b o1 Y R v) (htl : tl = R.tasks.length) (htv : v.tv = tv) (hst : Row o1 (6 + 3 * R.tasks.length) Y 40 4 sv l.length (stCells l))
    (hown : w'.ownsRow 0 78 1 (.slice (some ⟨g, 0, none⟩) (tl + 1) cap) (tl + 1) (v.tb.map ptrV ++ [.pointer (some ⟨Y.heap.size, 0, none⟩)]))
    (hgrow : ((Y.alloc (.cells #[sv, .int .i64 0, .int .i64 0, .bool false, .slice none 0 0] 77)).alloc (.cells #[.pointer (some ⟨Y.heap.size, 0, none⟩)] 78)).grownBy w' tv.ownBlock) (hat : tv.ownBlock = some g ∨ Y.heap.size + 2 ≤ g) :
    w'.cell? ⟨b, 5, none⟩ = some tv ∧ w'.frozen? ⟨b, 5, none⟩ = false ∧ KStp o w b { R with tasks := R.tasks ++ [⟨l, 0, 0, false, []⟩] } (w'.setCell ⟨b, 5, none⟩ (.slice (some ⟨g, 0, none⟩) (tl + 1) cap)) := by
  subst htl htv
  have hr := hN.kp.tasks nX
  have hf : Fr (fun k => o1 k = some 1) Y w' := (((Fr.refl _ Y).alloc _).alloc _).grown hgrow (fun k hk _ => hr.2 k hk)
  have hnb : ¬ o1 b = some 1 := by rw [(hN.kp.blk nX).1]; simp
  obtain ⟨o2, ho2⟩ : ∃ o2 : Nat → Option Nat, o2 = fun k => if k < Y.heap.size then o1 k else if k = Y.heap.size then some (5 + 3 * R.tasks.length) else some 1 := ⟨_, rfl⟩
  have hown2 : Own Y o1 o2 := fun k hk => by rw [ho2]; simp only; rw [if_pos hk]
  have hjb : w'.heap[Y.heap.size]? = some (.cells #[sv, .int .i64 0, .int .i64 0, .bool false, .slice none 0 0] 77 (0, 0)) := by
    refine (hgrow.block Y.heap.size (by simp; omega) (fun e => ?_)).trans (new0E _ _ _)
    have := (owns_lt hr.1 e.symm).2
    omega
  have hx := hN.kp.addTask (o' := o2) (w1 := w') hown2 (jb := Y.heap.size) (x := .slice (some ⟨g, 0, none⟩) (R.tasks.length + 1) cap) (sv := sv) (l := l) ⟨by rw [ho2]; simp, hjb⟩ (hst.keep hf (fun k hk e => by rw [hk] at e; injection e with e; omega) hown2) ⟨hown, fun k hk => by
    injection hk with hk
    have hk : g = k := hk
    subst hk
    rcases hat with e | e
    · rw [hown2 g (owns_lt hr.1 e).2]; exact hr.2 g e
    · rw [ho2]; simp only; rw [if_neg (by omega), if_neg (by omega)]⟩ hf
  exact ⟨(hf.cell hN.kp.lt hnb).trans (hN.kp.cell 5), (hf.frozen hN.kp.lt hnb).trans (hN.kp.free 5), (hN.upd hx.1 hown2 hx.2).done⟩
set_option maxRecDepth 100000 in
set_option maxHeartbeats 1000000 in
theorem say_k {N : Nat} (h : KP o w b R v) (hk : KOk N R) (hN : N ≤ 900000000) {l : List St} (hl : jobB l = true) {sv : Value} (hs : Row o (6 + 3 * R.tasks.length) w 40 4 sv l.length (stCells l)) :
    Calls Try.prog 34 #[ptrV b, sv] w fun e w' => KDone o w b (R.sayR l) e w' := by
  have H : Hid (KP o w b R v ∧ KOk N R ∧ N ≤ 900000000) := ⟨h, hk, hN⟩
  have HS : Hid (Row o (6 + 3 * R.tasks.length) w 40 4 sv l.length (stCells l)) := hs
  have HWt : Hid (∀ k, Calls Try.prog 67 #[.pointer (some ⟨b, 0, none⟩)] (w.drewN k) fun e w' => e = .returned (.int .i64 (R.d.waiting : Int)) ∧ ∃ m, w' = (w.drewN k).drewN m) := fun k => by
    have := waiting_q (h.below (below_drewN (Below.refl _ w) k)) (hk.sm hN)
    rw [wait_eq hk.k] at this
    exact this
  have HSub : Hid (∀ X, Below w.heap.size w X → Calls Try.prog 68 #[.pointer (some ⟨R.xb, 0, none⟩), sv] X fun e w' => PStepD (fun k => grow X o 4 k = some 4) X R.xb (R.d.submit l).1 (.tuple #[.int .i64 ((R.d.submit l).2.1 : Int), .int .i64 (R.d.submit l).2.2]) e w') := fun X hb =>
    psubmit_ok (fun k => grow X o 4 k = some 4) X R.xb R.d sv l (h.below hb).deskAt (hk.ask hN) (stepsV_own (owns_keep hs.1 hb)) (fun k hk => grow_new hk)
  have c2 : w.cell? ⟨b, 2, none⟩ = some (.int .i64 (R.c.queue : Int)) := h.cell 2
  have hcq : R.c.queue = R.d.c.queue := by rw [hk.k.conf]
  rw [hcq] at c2
  obtain ⟨sa, sc, hsv⟩ := owns_form hs.1
  have htl : R.tasks.length ≤ 900000000 := (hk.sm hN).tasks
  have hlen := hk.k.len
  have hsub : R.d.submit l = if R.d.c.queue ≤ R.d.waiting then (R.d, 0, 5) else ((R.d.submit l).1, R.d.jobs.length + 1, 0) := by
    by_cases hq : R.d.c.queue ≤ R.d.waiting
    · rw [if_pos hq]; unfold DeskM.submit; rw [if_neg (by rw [hl]; simp), if_pos hq]
    · rw [if_neg hq]; unfold DeskM.submit; rw [if_neg (by rw [hl]; simp), if_neg hq]
  have HR : Hid (R.sayR l = if R.d.c.queue ≤ R.d.waiting then R else { R with d := (R.d.submit l).1, tasks := R.tasks ++ [⟨l, 0, 0, false, []⟩] }) := rfl
  unfold ptrV
  by_cases hq : R.d.c.queue ≤ R.d.waiting
  · rw [if_pos hq] at hsub HR
    rw [hsub] at HSub
    have m1 : (R.d.c.queue : Int) ≤ (R.d.waiting : Int) := by omega
    generalize R.d.c.queue = qu at c2 m1 hq
    generalize R.d.waiting = wa at HWt m1 hq
    subst hsv
    clear h hk hN hs hsub hcq hlen
    go_enter Try.func34, Try.ntmps34
    go_wp2
    go_quiet ((go_at_call 67; exact Calls.quiet_of (HWt.out _)))
    refine name_x (p := fun X => Below w.heap.size w X) (below_drewN (Below.refl _ _) _) ?_
    rintro X hX
    have HX : Hid (Below w.heap.size w X) := hX
    have c0 : X.cell? ⟨b, 0, none⟩ = some (.pointer (some ⟨R.xb, 0, none⟩)) := (H.out.1.below hX).cell 0
    clear hX c2 HWt
    go_wp2_with fail
    refine (HSub.out X HX.out).mono ?_
    rintro e W2 ⟨rfl, hd, hf⟩
    have hs := (H.out.1.below HX.out).deskStep hd hf
    have HW : Hid (KNow o w b (grow X o 4) W2 R v) := ((KNow.start H.out.1).below HX.out).upd hs.1 (own_grow _ _ _) hs.2
    clear hd hf hs HSub c0
    have c8 : W2.cell? ⟨b, 8, none⟩ = some (.bool true) := HW.out.kp.cell 8
    have f8 := HW.out.kp.free 8
    go_wp2
    go_end0
    rw [HR.out]
    exact ⟨rfl, (HW.out.step HW.out.kp.setOk).done⟩
  · rw [if_neg hq] at hsub HR
    obtain ⟨d', hd'⟩ : ∃ d', d' = (R.d.submit l).1 := ⟨_, rfl⟩
    have h1 : (R.d.submit l).2.1 = R.tasks.length + 1 := by rw [hsub, hlen]
    have h2 : (R.d.submit l).2.2 = 0 := by rw [hsub]
    rw [h1, h2, ← hd'] at HSub
    rw [← hd'] at HR
    have m1 : ¬ (R.d.c.queue : Int) ≤ (R.d.waiting : Int) := by omega
    generalize R.d.c.queue = qu at c2 m1 hq
    generalize R.d.waiting = wa at HWt m1 hq
    obtain ⟨i0, hii, hz0, hz1, hz2⟩ := info_parts Try.infoTask
    obtain ⟨ln, hln⟩ : ∃ ln, ln = l.length := ⟨_, rfl⟩
    rw [← hln] at hsv
    obtain ⟨z, hz⟩ : ∃ z : Int, z = ((R.tasks.length + 1 : Nat) : Int) := ⟨_, rfl⟩
    rw [← hz] at HSub
    have hwz : IntKind.i64.wrap ((R.tasks.length : Int) + 1) = z := by rw [IntKind.wrap_i64]; omega
    subst hsv
    clear h hk hN hs hsub hcq hlen hd' h1 h2 hz hln
    go_enter Try.func34, Try.ntmps34
    go_wp2
    go_quiet ((go_at_call 67; exact Calls.quiet_of (HWt.out _)))
    refine name_x (p := fun X => Below w.heap.size w X) (below_drewN (Below.refl _ _) _) ?_
    rintro X hX
    have HX : Hid (Below w.heap.size w X) := hX
    have c0 : X.cell? ⟨b, 0, none⟩ = some (.pointer (some ⟨R.xb, 0, none⟩)) := (H.out.1.below hX).cell 0
    clear hX c2 HWt
    go_wp2_with fail
    refine (HSub.out X HX.out).mono ?_
    rintro e W2 ⟨rfl, hd, hf⟩
    have hs := (H.out.1.below HX.out).deskStep hd hf
    have hW : KNow o w b (grow X o 4) W2 { R with d := d' } v := ((KNow.start H.out.1).below HX.out).upd hs.1 (own_grow _ _ _) hs.2
    have hf2 : Fr (fun k => o k = some 4) X W2 := hf.mono (fun k hk e => by rw [own_grow X o 4 k hk] at e; exact e)
    have hrw : Row (grow X o 4) (6 + 3 * R.tasks.length) W2 40 4 (.slice sa ln sc) l.length (stCells l) :=
      (HS.out.keep (o' := o) (R := fun _ => False) (Fr.of_below HX.out) (fun _ _ h => h) (Own.refl _ _)).keep hf2 (fun k hk e => by rw [hk] at e; injection e with e; omega) (own_grow X o 4)
    generalize grow X o 4 = o1 at hW hrw
    have k1 := hW.step hW.kp.setOk
    have hrw2 : Row o1 (6 + 3 * R.tasks.length) (W2.setCell ⟨b, 8, none⟩ (.bool true)) 40 4 (.slice sa ln sc) l.length (stCells l) :=
      hrw.keep (R := fun k => k = b) ((Fr.refl (fun k => k = b) W2).setCell (p := ⟨b, 8, none⟩) (fun _ => rfl) _) (fun k hk e => by subst e; rw [(hW.kp.blk nX).1] at hk; injection hk with hk; omega) (Own.refl _ _)
    have HY : Hid (KNow o w b o1 (W2.setCell ⟨b, 8, none⟩ (.bool true)) { R with d := d' } v ∧ Row o1 (6 + 3 * R.tasks.length) (W2.setCell ⟨b, 8, none⟩ (.bool true)) 40 4 (.slice sa ln sc) l.length (stCells l)) := ⟨k1, hrw2⟩
    have c8 : W2.cell? ⟨b, 8, none⟩ = some (.bool true) := hW.kp.cell 8
    have f8 := hW.kp.free 8
    obtain ⟨ta, tc, htv⟩ := owns_form (hW.kp.tasks nX).1
    have c5 : W2.cell? ⟨b, 5, none⟩ = some v.tv := hW.kp.cell 5
    rw [htv] at c5
    simp only at c5 htv
    obtain ⟨tl, htl'⟩ : ∃ tl, tl = R.tasks.length := ⟨_, rfl⟩
    rw [← htl'] at c5 hwz htl htv
    have HTV : Hid (v.tv = .slice ta tl tc ∧ tl = R.tasks.length) := ⟨htv, htl'⟩
    have hbl := hW.kp.lt
    clear hd hf hs HSub c0 hW hf2 hrw hrw2 k1 htl' htv
    go_upto_region 5 with fail
    refine name_wp (p := fun Y => KNow o w b o1 Y { R with d := d' } v ∧ Row o1 (6 + 3 * R.tasks.length) Y 40 4 (.slice sa ln sc) l.length (stCells l)) HY.out ?_
    clear HY c8 f8 c5 hbl
    rintro Y hY
    have HY : Hid (KNow o w b o1 Y { R with d := d' } v ∧ Row o1 (6 + 3 * R.tasks.length) Y 40 4 (.slice sa ln sc) l.length (stCells l)) := hY
    have c5 : Y.cell? ⟨b, 5, none⟩ = some v.tv := hY.1.kp.cell 5
    rw [HTV.out.1] at c5
    have hbl := hY.1.kp.lt
    have hrow := (hY.1.kp.tasks nX).1
    rw [HTV.out.1] at hrow
    simp only at hrow
    rw [← HTV.out.2] at hrow
    have HRow : Hid (Y.ownsRow 0 78 1 (.slice ta tl tc) tl (v.tb.map ptrV)) := hrow
    clear hY hrow
    go_wp2_with (at_builtin; refine wpList_append_lies _ (by rfl) _ _ 65 (by rfl) 0 78 i0 _ 1 8 Try.underlying65 hii hz0 hz1 hz2 (by rfl) (by decide) _ _ _ (by rfl) ((HRow.out.alloc _).alloc _) ⟨Y.heap.size + 1, 0, none⟩ 1 1 [.pointer (some ⟨Y.heap.size, 0, none⟩)] (by rfl) (by rfl) ?_ ?_ (by decide) ?_ ?_ ?_ _ (by rfl) ?_)
    · exact World.news_of_block (new1E _ _ _)
    · intro u hu; simp at hu; subst hu; rfl
    · unfold maxLen; omega
    · omega
    · exact Nat.zero_le _
    · intro g cap w' hown hgrow hat _
      obtain ⟨k3, k4, hput⟩ := taskPush HY.out.1 HTV.out.2 HTV.out.1 HY.out.2 hown hgrow (hat.imp_right (fun e => by first | omega | (simp at e; omega)))
      have HP : Hid (KStp o w b (R.sayR l) (w'.setCell ⟨b, 5, none⟩ (.slice (some ⟨g, 0, none⟩) (tl + 1) cap))) := by rw [HR.out]; exact hput
      clear hown hgrow hat hput c5
      go_wp2
      go_end0
      exact ⟨rfl, HP.out⟩
end
end Go.Proofs.Ytlbmcdoldnajoaa
