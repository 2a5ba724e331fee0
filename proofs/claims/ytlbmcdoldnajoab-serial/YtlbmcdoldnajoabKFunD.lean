import Derived.Test.YtlbmcdoldnajoabKFunC
import Derived.Deep.DeepCutAuto

namespace Go.Proofs.Ytlbmcdoldnajoab
open Go.RowKit
section
variable {o : Nat → Option Nat} {w : World} {b : Nat} {R : RM} {v : KV}
theorem grow_at {w : World} {o : Nat → Option Nat} {q g : Nat} {u : Value} (hr : ∀ k, u.ownBlock = some k → o k = some q) (hat : u.ownBlock = some g ∨ w.heap.size ≤ g) : grow w o q g = some q := by
  rcases hat with hat | hat
  · unfold grow
    by_cases hl : g < w.heap.size
    · rw [if_pos hl]; exact hr g hat
    · rw [if_neg hl]
  · exact grow_new hat
/-- one more has ended -/
theorem KP.pushO (h : KP o w b R v) {X1 w' : World} (hb : Below w.heap.size w X1) {n g cap : Nat} (hown : w'.ownsRow 0 3 1 (.slice (some ⟨g, 0, none⟩) (R.order.length + 1) cap) (R.order.length + 1) (R.order.map natV ++ [natV n])) (hgrow : X1.grownBy w' v.ov.ownBlock) (hat : v.ov.ownBlock = some g ∨ w.heap.size ≤ g) :
    (KP (grow w o 2) (w'.setCell ⟨b, 6, none⟩ (.slice (some ⟨g, 0, none⟩) (R.order.length + 1) cap)) b { R with order := R.order ++ [n] } { v with ov := .slice (some ⟨g, 0, none⟩) (R.order.length + 1) cap } ∧ Fr (MineK o) w (w'.setCell ⟨b, 6, none⟩ (.slice (some ⟨g, 0, none⟩) (R.order.length + 1) cap))) ∧ w'.cell? ⟨b, 6, none⟩ = some v.ov ∧ w'.frozen? ⟨b, 6, none⟩ = false := by
  have hr := h.order nX
  have hf : Fr (fun k => o k = some 2) w w' := (Fr.of_below (S := fun k => o k = some 2) hb).grown hgrow (fun k hk _ => hr.2 k hk)
  have hnb : ¬ o b = some 2 := by rw [(h.blk nX).1]; simp
  refine ⟨h.setOrder (own_grow w o 2) hf ⟨?_, fun k hk => ?_⟩, (hf.cell h.lt hnb).trans (h.cell 6), (hf.frozen h.lt hnb).trans (h.free _)⟩
  · rw [List.length_append, List.length_singleton, List.map_append]
    exact hown
  · injection hk with hk
    have hk : g = k := hk
    subst hk
    exact grow_at hr.2 hat
/-- one foe more -/
theorem KP.pushF (h : KP o w b R v) {j : Nat} (hj : j < R.tasks.length) {X1 w' : World} (hb : Below w.heap.size w X1) {n g cap L : Nat} (hL : L = (R.tk (j + 1)).foes.length) (hown : w'.ownsRow 0 3 1 (.slice (some ⟨g, 0, none⟩) (L + 1) cap) (L + 1) ((R.tk (j + 1)).foes.map natV ++ [natV n])) (hgrow : X1.grownBy w' (v.fv.getD j nilV).ownBlock) (hat : (v.fv.getD j nilV).ownBlock = some g ∨ w.heap.size ≤ g) :
    (KP (grow w o (7 + 3 * j)) (w'.setCell ⟨v.tb.getD j 0, 4, none⟩ (.slice (some ⟨g, 0, none⟩) (L + 1) cap)) b { R with tasks := R.tasks.set j { R.tk (j + 1) with foes := (R.tk (j + 1)).foes ++ [n] } } { v with fv := v.fv.set j (.slice (some ⟨g, 0, none⟩) (L + 1) cap) } ∧ Fr (MineK o) w (w'.setCell ⟨v.tb.getD j 0, 4, none⟩ (.slice (some ⟨g, 0, none⟩) (L + 1) cap))) ∧ w'.cell? ⟨v.tb.getD j 0, 4, none⟩ = some (v.fv.getD j nilV) ∧ w'.frozen? ⟨v.tb.getD j 0, 4, none⟩ = false := by
  have hr := h.fo j hj nX
  have htb := h.tb j hj nX
  have hf : Fr (fun k => o k = some (7 + 3 * j)) w w' := (Fr.of_below (S := fun k => o k = some (7 + 3 * j)) hb).grown hgrow (fun k hk _ => hr.2 k hk)
  have hnb : ¬ o (v.tb.getD j 0) = some (7 + 3 * j) := by rw [htb.1]; intro e; injection e with e; omega
  refine ⟨h.setFoes (own_grow w o (7 + 3 * j)) hj hf (l := (R.tk (j + 1)).foes ++ [n]) ⟨?_, fun k hk => ?_⟩, (hf.cell (blk_lt htb.2) hnb).trans (h.cTk hj 4), (hf.frozen (blk_lt htb.2) hnb).trans (blk_free htb.2)⟩
  · rw [List.length_append, List.length_singleton, List.map_append, ← hL]
    exact hown
  · injection hk with hk
    have hk : g = k := hk
    subst hk
    exact grow_at hr.2 hat
theorem play_done_le (l : List St) (m : Int → Int) : ∀ (n : Nat) (x : Mo), (play l m n x).done ≤ n + x.done
  | 0, x => by rw [play_zero]; omega
  | n + 1, x => by
    by_cases hc : x.fin = 0 ∧ x.pc < l.length
    · rw [play_go hc]
      have := play_done_le l m n (stp (l.getD x.pc stz) m x)
      rw [stp_done] at this
      omega
    · rw [play_end hc]; omega
/-- what a desk's jobs told is not long -/
theorem told_le {d : DeskM} (h : DInv d) (i : Nat) (hi : i < d.jobs.length) : (d.jobs.getD i jobM0).told.length ≤ 1000 := by
  have hhas : d.Has (i + 1) := ⟨by omega, by omega⟩
  have e : d.jobs.getD i jobM0 = d.job (i + 1) := rfl
  rw [e]
  have hs := (h.jobs _ hhas).2
  by_cases ho : 3 ≤ (d.job (i + 1)).state ∧ (d.job (i + 1)).state ≤ 5
  · obtain ⟨g, hg, ht⟩ := h.g.gall _ hhas ho
    have h1 := (h.g.gjob g hg).2.2
    rw [ht] at h1
    rw [h1]
    have hc := h.conf
    have hb := h.g.goods.ord.begle g hg
    have hm := play_moOk (l := d.gL g) (h.jobs _ (h.g.gjob g hg).1).1 (m := mapF (d.goods.take (gAt d.goods g).beg)) (fun k => mapF_le h.g (by show (gAt d.goods g).beg ≤ _; have hb : (gAt d.goods g).beg ≤ g := hb; omega) k) d.c.fuel mo0 (mo0_ok _)
    have h3 : (play (d.gL g) (mapF (d.goods.take (gAt d.goods g).beg)) d.c.fuel mo0).done ≤ d.c.fuel + mo0.done := play_done_le _ _ _ _
    have h4 : mo0.done = 0 := rfl
    have h2 := hm.told
    show (play (d.gL g) (mapF (d.goods.take (gAt d.goods g).beg)) d.c.fuel mo0).told.length ≤ 1000
    omega
  · rw [h.quiet _ hhas (by omega)]
    exact Nat.zero_le _
/-- no block that is not there belongs to any part -/
def cutO (w : World) (o : Nat → Option Nat) (k : Nat) : Option Nat := if k < w.heap.size then o k else none
theorem own_cutO (w : World) (o : Nat → Option Nat) : Own w o (cutO w o) := fun _ hk => if_pos hk
theorem cutO_new {w : World} {o : Nat → Option Nat} {k : Nat} (h : w.heap.size ≤ k) : cutO w o k = none := if_neg (by omega)
theorem KNow.begin {o : Nat → Option Nat} {w : World} {b : Nat} {R : RM} {v : KV} (h : KP o w b R v) : KNow o w b (cutO w o) w R v := ⟨h.own (own_cutO w o), own_cutO w o, Fr.refl _ _⟩
/-- what is known behind a Poll of a job that is Committed -/
def FoeP (o : Nat → Option Nat) (w : World) (b : Nat) (R : RM) (v : KV) (W : World) (e : Ending) (w' : World) : Prop := ∃ ta tn tc tr, e = .returned (.tuple #[.agg #[.int .i64 3, .slice ta tn tc, .int .i64 tr], .int .i64 0]) ∧ KNow o w b (cutO w o) w' R v ∧ Below W.heap.size W w'
abbrev noteO (z p : Int) : Obj := .cells #[.int .i64 4, .int .i64 z, .int .i64 p] 113
abbrev outO : Obj := .cells #[.int .i64 0, .slice none 0 0, .int .i64 0] 37
theorem out_box {W : World} {k : Nat} {x : Int} {u : Value} {y : Int} (h : W.heap[k]? = some (.cells #[.int .i64 x, u, .int .i64 y] 37 (0, 0))) :
    W.cell? ⟨k, 0, none⟩ = some (.int .i64 x) ∧ W.cell? ⟨k, 1, none⟩ = some u ∧ W.cell? ⟨k, 2, none⟩ = some (.int .i64 y) ∧ (∀ i, W.frozen? ⟨k, i, none⟩ = false) ∧ k < W.heap.size :=
  ⟨by rw [blk_cell h]; rfl, by rw [blk_cell h]; rfl, by rw [blk_cell h]; rfl, fun _ => blk_free h, blk_lt h⟩
theorem note_box {W : World} {k : Nat} {x y z : Int} (h : W.heap[k]? = some (.cells #[.int .i64 x, .int .i64 y, .int .i64 z] 113 (0, 0))) :
    W.cell? ⟨k, 0, none⟩ = some (.int .i64 x) ∧ W.cell? ⟨k, 1, none⟩ = some (.int .i64 y) ∧ W.cell? ⟨k, 2, none⟩ = some (.int .i64 z) ∧ (∀ i, W.frozen? ⟨k, i, none⟩ = false) ∧ k < W.heap.size :=
  ⟨by rw [blk_cell h]; rfl, by rw [blk_cell h]; rfl, by rw [blk_cell h]; rfl, fun _ => blk_free h, blk_lt h⟩
theorem note_kept {w W1 : World} {z p : Int} (h : Below (w.alloc (noteO z p)).drew.heap.size (w.alloc (noteO z p)).drew W1) : W1.heap[w.heap.size]? = some (.cells #[.int .i64 4, .int .i64 z, .int .i64 p] 113 (0, 0)) :=
  (h.block w.heap.size (by show w.heap.size < (w.alloc _).heap.size; simp)).trans (heap_alloc_new w (noteO z p))
theorem note_out_kept {w W1 : World} {z p : Int} (h : Below ((w.alloc (noteO z p)).alloc outO).drew.heap.size ((w.alloc (noteO z p)).alloc outO).drew W1) : W1.heap[w.heap.size]? = some (.cells #[.int .i64 4, .int .i64 z, .int .i64 p] 113 (0, 0)) ∧ W1.heap[w.heap.size + 1]? = some (.cells #[.int .i64 0, .slice none 0 0, .int .i64 0] 37 (0, 0)) :=
  ⟨(h.block w.heap.size (by show w.heap.size < ((w.alloc _).alloc _).heap.size; simp; omega)).trans (new0E w (noteO z p) outO), (h.block (w.heap.size + 1) (by show w.heap.size + 1 < ((w.alloc _).alloc _).heap.size; simp)).trans (new1E w (noteO z p) outO)⟩
/-- behind the statement: the outcome's box -/
def FoeC (o : Nat → Option Nat) (w : World) (b : Nat) (R : RM) (v : KV) (z p : Int) (x y : Value) (wx : World) : Prop := ∃ ob ta tn tc tr, x = .pointer (some ⟨ob, 0, none⟩) ∧ y = .int .i64 0 ∧ KNow o w b (cutO w o) wx R v ∧
  wx.heap[w.heap.size]? = some (.cells #[.int .i64 4, .int .i64 z, .int .i64 p] 113 (0, 0)) ∧ wx.heap[ob]? = some (.cells #[.int .i64 3, .slice ta tn tc, .int .i64 tr] 37 (0, 0))
theorem set3_out {W : World} {k : Nat} {u u' : Value} {x y x' y' : Int} (h : W.heap[k]? = some (.cells #[.int .i64 x, u, .int .i64 y] 37 (0, 0))) :
    (((W.setCell ⟨k, 0, none⟩ (.int .i64 x')).setCell ⟨k, 1, none⟩ u').setCell ⟨k, 2, none⟩ (.int .i64 y')).heap[k]? = some (.cells #[.int .i64 x', u', .int .i64 y'] 37 (0, 0)) := by
  have h1 := blk_set h 0 (.int .i64 x')
  have h2 := blk_set h1 1 u'
  exact blk_set h2 2 (.int .i64 y')
/-- a box of the walk's own is written -/
theorem KNow.box {o o1 : Nat → Option Nat} {w W : World} {b : Nat} {R1 : RM} {v1 : KV} (h : KNow o w b o1 W R1 v1) {k : Nat} (hk : w.heap.size ≤ k) (hno : o1 k = none) (i : Nat) (x : Value) : KNow o w b o1 (W.setCell ⟨k, i, none⟩ x) R1 v1 := by
  have hf : Fr (fun q => q = k) W (W.setCell ⟨k, i, none⟩ x) := (Fr.refl (fun q => q = k) W).setCell (p := ⟨k, i, none⟩) (fun _ => rfl) x
  exact ⟨h.kp.fr hf (fun q hq e => by subst e; exact hq hno) (Own.refl _ _), h.own, h.fr.trans hf (fun q hq e => by subst e; omega)⟩
/-- behind an append of a number, ahead of the store -/
def Grew (W : World) (sv : Value) (L : Nat) (xs : List Value) (r : Int) (g cap : Nat) (w' : World) : Prop := w'.ownsRow 0 3 1 (.slice (some ⟨g, 0, none⟩) (L + 1) cap) (L + 1) (xs ++ [.int .i64 r]) ∧ (W.alloc (.cells #[.int .i64 r] 3)).drew.grownBy w' sv.ownBlock ∧ (sv.ownBlock = some g ∨ W.heap.size ≤ g)
theorem step_int {ops : Array Oper} {o : Oper} {a : Act} {K : Act → World → Prop} {Q : Exit → Act → World → Prop} {E : Prop} (s y : Operand) {W : World} {sv : Value} {L : Nat} {xs : List Value} {r : Int}
    (hgd : o.guard = none) (ho : o.op = .call { callee := .builtin .append, args := #[s, y], argTypes := #[32, 32] })
    (hM : W.ownsRow 0 3 1 sv L xs) (htl : L ≤ 1000000000) (hs : a.eval s = sv) (hy : a.eval y = .slice (some ⟨W.heap.size, 0, none⟩) 1 1)
    (h : ∀ g cap w', Grew W sv L xs r g cap w' → K (a.put o.dst (.slice (some ⟨g, 0, none⟩) (L + 1) cap)) w') :
    if Region.wanted o (yielded ops a.tmps) = true then Oper.wp Try.prog o a (W.alloc (.cells #[.int .i64 r] 3)).drew K Q else E := by
  obtain ⟨i0, hi, hz0, hz1, hz2⟩ := info_parts Try.infoInt
  have hnew : (W.alloc (.cells #[.int .i64 r] 3)).drew.heap[W.heap.size]? = some (.cells #[.int .i64 r] 3 (0, 0)) := heap_alloc_new W _
  have hsz : (W.alloc (.cells #[.int .i64 r] 3)).drew.heap.size = W.heap.size + 1 := by show (W.alloc _).heap.size = _; simp
  have hM1 : (W.alloc (.cells #[.int .i64 r] 3)).drew.ownsRow 0 3 1 sv L xs := owns_keep hM (((Below.refl _ _).alloc (Nat.le_refl _) _).drew)
  refine step_append_lies _ hgd s y 32 ho 0 3 i0 _ 1 8 Try.underlying32 hi hz0 hz1 hz2 rfl (by decide) sv L xs hs hM1 ⟨W.heap.size, 0, none⟩ 1 1 [.int .i64 r] hy rfl
    (World.news_of_block hnew) (fun u hu => by simp at hu; subst hu; rfl) (by decide) (by unfold maxLen; omega) (by omega) (by omega) _ rfl ?_
  intro g cap w' hown hgrow hat _
  exact h g cap w' ⟨hown, hgrow, hat.imp_right (fun e => by rw [e, hsz]; omega)⟩
/-- one foe more, ahead of the store -/
theorem foePush {o1 : Nat → Option Nat} {W : World} {j p g cap L : Nat} {w' : World} {sv : Value} (hN : KNow o w b o1 W R v) (hj : j < R.tasks.length) (hL : L = (R.tk (j + 1)).foes.length) (hsv : v.fv.getD j nilV = sv) (hG : Grew W sv L ((R.tk (j + 1)).foes.map natV) p g cap w') :
    w'.cell? ⟨v.tb.getD j 0, 4, none⟩ = some sv ∧ w'.frozen? ⟨v.tb.getD j 0, 4, none⟩ = false ∧ KStp o w b { R with tasks := R.tasks.set j { R.tk (j + 1) with foes := (R.tk (j + 1)).foes ++ [p] } } (w'.setCell ⟨v.tb.getD j 0, 4, none⟩ (.slice (some ⟨g, 0, none⟩) (L + 1) cap)) := by
  subst hsv
  have hx := hN.kp.pushF hj (X1 := (W.alloc (.cells #[.int .i64 p] 3)).drew) (((Below.refl _ _).alloc (Nat.le_refl _) _).drew) (n := p) hL hG.1 hG.2.1 hG.2.2
  exact ⟨hx.2.1, hx.2.2, (hN.upd hx.1.1 (own_grow _ _ _) hx.1.2).done⟩
theorem foeA {z p : Int} {W1 : World} {ta : Option Addr} {tn tc : Nat} {tr : Int} (h : KNow o w b (cutO w o) W1 R v ∧ W1.heap[w.heap.size]? = some (.cells #[.int .i64 4, .int .i64 z, .int .i64 p] 113 (0, 0))) :
    FoeC o w b R v z p (.pointer (some ⟨W1.heap.size, 0, none⟩)) (.int .i64 0) (W1.alloc (.cells #[.int .i64 3, .slice ta tn tc, .int .i64 tr] 37)) :=
  ⟨_, ta, tn, tc, tr, rfl, rfl, h.1.below ((Below.refl _ _).alloc (Nat.le_refl _) _), (Below.heap_alloc _ _ _ (blk_lt h.2)).trans h.2, heap_alloc_new _ _⟩
theorem foeB {z p : Int} {W1 : World} {ta : Option Addr} {tn tc : Nat} {tr : Int} (h : KNow o w b (cutO w o) W1 R v ∧ W1.heap[w.heap.size]? = some (.cells #[.int .i64 4, .int .i64 z, .int .i64 p] 113 (0, 0)) ∧ W1.heap[w.heap.size + 1]? = some (.cells #[.int .i64 0, .slice none 0 0, .int .i64 0] 37 (0, 0))) :
    FoeC o w b R v z p (.pointer (some ⟨w.heap.size + 1, 0, none⟩)) (.int .i64 0) (((W1.setCell ⟨w.heap.size + 1, 0, none⟩ (.int .i64 3)).setCell ⟨w.heap.size + 1, 1, none⟩ (.slice ta tn tc)).setCell ⟨w.heap.size + 1, 2, none⟩ (.int .i64 tr)) := by
  have hno : cutO w o (w.heap.size + 1) = none := cutO_new (Nat.le_succ _)
  refine ⟨_, ta, tn, tc, tr, rfl, rfl, ((h.1.box (Nat.le_succ _) hno _ _).box (Nat.le_succ _) hno _ _).box (Nat.le_succ _) hno _ _, ?_, set3_out h.2.2⟩
  rw [Below.heap_setCell _ _ _ _ (by show w.heap.size ≠ w.heap.size + 1; omega), Below.heap_setCell _ _ _ _ (by show w.heap.size ≠ w.heap.size + 1; omega), Below.heap_setCell _ _ _ _ (by show w.heap.size ≠ w.heap.size + 1; omega)]
  exact h.2.1
set_option maxRecDepth 100000 in
set_option maxHeartbeats 4000000 in
theorem foe_k (h : KP o w b R v) (hd : DInv R.d) {j p : Nat} (hj : j < R.tasks.length) (hjl : R.tasks.length ≤ 900000000) (hdl : R.d.jobs.length ≤ 900000000) (hp : R.d.Has p) (hp3 : (R.d.job p).state = 3) (hne : p ≠ j + 1) (hno : p ∉ (R.tk (j + 1)).foes) (hfl : (R.tk (j + 1)).foes.length ≤ 1000) :
    Calls Try.prog 50 #[ptrV b, noteA (4, j + 1, p)] w fun e w' => KDone o w b { R with tasks := R.tasks.set j { R.tk (j + 1) with foes := (R.tk (j + 1)).foes ++ [p] } } e w' := by
  have c0 : w.cell? ⟨b, 0, none⟩ = some (.pointer (some ⟨R.xb, 0, none⟩)) := h.cell 0
  have HPo : Hid (∀ W, Below w.heap.size w W → Calls Try.prog 16 #[.pointer (some ⟨R.xb, 0, none⟩), .int .i64 (p : Int)] W fun e w' => FoeP o w b R v W e w') := by
    intro W hbx
    have h1 := hp.1
    have h2 := hp.2
    have hpe := poll_yes (d := R.d) (i := p - 1) (by omega)
    rw [show ((p - 1 : Nat) : Int) + 1 = (p : Int) by omega] at hpe
    have e : R.d.jobs.getD (p - 1) jobM0 = R.d.job p := rfl
    rw [e, hp3] at hpe
    refine (kitP.poll (fun k => o k = some 4) W R.xb R.d (p : Int) ((h.below hbx).desk nX) (by omega) (told_le hd)).mono ?_
    rintro e W1 ⟨tv, rfl, ho, hb⟩
    obtain ⟨ta, tc, rfl⟩ := owns_form ho
    rw [hpe]
    exact ⟨ta, _, tc, _, rfl, (KNow.begin h).below (hbx.trans (hb.mono hbx.size)), hb⟩
  have H : Hid (KP o w b R v) := h
  have hbl := h.lt
  have HNo : Hid (p ∉ (R.tk (j + 1)).foes ∧ j < R.tasks.length) := ⟨hno, hj⟩
  obtain ⟨z, hz⟩ : ∃ z : Int, z = ((j + 1 : Nat) : Int) := ⟨_, rfl⟩
  have m3 : ¬ (p : Int) = z := by omega
  have hwr : IntKind.i64.wrap (z - 1) = (j : Int) := by rw [IntKind.wrap_i64]; omega
  obtain ⟨i0, hii, hz0, hz1, hz2⟩ := info_parts Try.infoInt
  unfold noteA
  simp only
  rw [← hz]
  unfold ptrV at *
  clear h hp hp3 hne hno hz
  go_enter Try.func50, Try.ntmps50
  go_wp2_with fail
  have HA : Hid (Below w.heap.size w (w.alloc (noteO z p)).drew) := ((Below.refl _ _).alloc (Nat.le_refl _) _).drew
  have HB : Hid (Below w.heap.size w ((w.alloc (noteO z p)).alloc outO).drew) := (((Below.refl _ _).alloc (Nat.le_refl _) _).alloc (by simp) _).drew
  go_cut [4, 5] (fun x y wx => FoeC o w b R v z p x y wx)
  case first =>
    go_region_with (go_at_call 16; first | (refine (HPo.out _ HA.out).mono ?_; rintro e W1 ⟨ta, tn, tc, tr, rfl, hN, hB⟩; have HW : Hid (KNow o w b (cutO w o) W1 R v ∧ W1.heap[w.heap.size]? = some (.cells #[.int .i64 4, .int .i64 z, .int .i64 (p : Int)] 113 (0, 0))) := ⟨hN, note_kept hB⟩; clear hN hB) | (refine (HPo.out _ HB.out).mono ?_; rintro e W1 ⟨ta, tn, tc, tr, rfl, hN, hB⟩; obtain ⟨hn, ho⟩ := note_out_kept hB; obtain ⟨b0, b1, b2, bf, bl⟩ := out_box ho; have HW : Hid (KNow o w b (cutO w o) W1 R v ∧ W1.heap[w.heap.size]? = some (.cells #[.int .i64 4, .int .i64 z, .int .i64 (p : Int)] 113 (0, 0)) ∧ W1.heap[w.heap.size + 1]? = some (.cells #[.int .i64 0, .slice none 0 0, .int .i64 0] 37 (0, 0))) := ⟨hN, hn, ho⟩; clear hN hB hn ho))
    all_goals
      go_wp2_with fail
      go_meet
      first | exact foeA HW.out | exact foeB HW.out
  case rest =>
  clear HPo HA HB c0 hbl
  obtain ⟨ob, ta, tn, tc, tr, rfl, rfl, hN, hn, ho⟩ := hcut
  have HW : Hid (KNow o w b (cutO w o) wc R v ∧ wc.heap[w.heap.size]? = some (.cells #[.int .i64 4, .int .i64 z, .int .i64 (p : Int)] 113 (0, 0))) := ⟨hN, hn⟩
  obtain ⟨n0, n1, n2, _, nl⟩ := note_box hn
  obtain ⟨o0, _, _, _, ol⟩ := out_box ho
  clear hN hn ho H
  obtain ⟨gt, tcap, tb, htp⟩ := HW.out.1.kp.tkPl (j := j) HNo.out.2
  have c5 := htp.c5
  have cp := htp.cell
  have HTB : Hid (tb = v.tb.getD j 0) := htp.tbe
  obtain ⟨fa, fc, hfv⟩ := owns_form (HW.out.1.kp.fo j HNo.out.2 nX).1
  have e1 : R.tasks.getD j tk0 = R.tk (j + 1) := rfl
  rw [e1] at hfv
  obtain ⟨L, hL⟩ : ∃ L, L = (R.tk (j + 1)).foes.length := ⟨_, rfl⟩
  rw [← hL] at hfl hfv
  have HFV : Hid (v.fv.getD j nilV = .slice fa L fc ∧ L = (R.tk (j + 1)).foes.length) := ⟨hfv, hL⟩
  obtain ⟨tl, htl⟩ : ∃ tl, tl = R.tasks.length := ⟨_, rfl⟩
  rw [← htl] at c5 hj hjl
  have m2 : (j : Int) < (tl : Int) := by omega
  clear htp hfv hL htl e1
  go_wp2
  go_quiet (fail)
  refine name_x (p := fun X => KNow o w b (cutO w o) X R v ∧ X.heap[w.heap.size]? = some (.cells #[.int .i64 4, .int .i64 z, .int .i64 (p : Int)] 113 (0, 0))) ⟨HW.out.1.below (below_drewN (Below.refl _ _) _), HW.out.2⟩ ?_
  rintro X hX
  have HX : Hid (KNow o w b (cutO w o) X R v ∧ X.heap[w.heap.size]? = some (.cells #[.int .i64 4, .int .i64 z, .int .i64 (p : Int)] 113 (0, 0))) := hX
  clear hX HW n0 n1 n2 nl o0 ol c5 cp
  go_wp2
  go_loopw [7] (fun i wr => ∃ k : Nat, k ≤ L ∧ i = .int .i64 k ∧ KNow o w b (cutO w o) wr R v ∧ wr.heap[w.heap.size]? = some (.cells #[.int .i64 4, .int .i64 z, .int .i64 (p : Int)] 113 (0, 0))) (fun i _ => L - (intOf i).toNat)
  case atStart => exact ⟨0, Nat.zero_le _, rfl, HX.out⟩
  case round =>
    obtain ⟨k, hk, rfl, hkn, hno⟩ := hrel
    have HW : Hid (KNow o w b (cutO w o) wr R v ∧ wr.heap[w.heap.size]? = some (.cells #[.int .i64 4, .int .i64 z, .int .i64 (p : Int)] 113 (0, 0))) := ⟨hkn, hno⟩
    obtain ⟨n0, n1, n2, _, nl⟩ := note_box hno
    have cf : wr.cell? ⟨tb, 4, none⟩ = some (v.fv.getD j nilV) := by rw [HTB.out]; exact hkn.kp.cTk HNo.out.2 4
    have htbl : tb < wr.heap.size := by rw [HTB.out]; exact blk_lt (hkn.kp.task HNo.out.2)
    have hrow := (hkn.kp.fo j HNo.out.2 nX).1
    have e1 : R.tasks.getD j tk0 = R.tk (j + 1) := rfl
    rw [HFV.out.1, e1, ← HFV.out.2] at hrow
    rw [HFV.out.1] at cf
    have HRow : Hid (wr.ownsRow 0 3 1 (.slice fa L fc) L ((R.tk (j + 1)).foes.map natV)) := hrow
    clear hkn hno hrow e1
    by_cases hlt : k < L
    · obtain ⟨g, hg⟩ := owns_blk HRow.out (by omega)
      subst hg
      have hkl : k < (R.tk (j + 1)).foes.length := by rw [← HFV.out.2]; exact hlt
      have co := nat_row HRow.out (j := k) hkl HFV.out.2
      have m4 : ¬ (((R.tk (j + 1)).foes.getD k 0 : Nat) : Int) = (p : Int) := fun e => HNo.out.1 (by
        have : (R.tk (j + 1)).foes.getD k 0 = p := by omega
        rw [← this]
        simp [List.getD, hkl])
      generalize (R.tk (j + 1)).foes.getD k 0 = f at co m4
      have m1 : (k : Int) < (L : Int) := by omega
      clear hkl
      go_wp2
      go_quiet (fail)
      go_wp2
      go_roundw
      case rel => exact ⟨k + 1, by omega, by go_num, HW.out.1.below (below_drewN (Below.refl _ _) _), HW.out.2⟩
      case measure => simp [intOf]; omega
    · obtain rfl : k = L := by omega
      have HFL : Hid (k ≤ 1000000000) := by show _ ≤ _; omega
      go_wp2
      go_region_law (refine step_int (.tmp 70) (.tmp 73) (by rfl) (by rfl) HRow.out HFL.out (by rfl) (by rfl) ?_; intro g cap w1 hG; obtain ⟨k3, k4, hput⟩ := foePush HW.out.1 HNo.out.2 HFV.out.2 HFV.out.1 hG; rw [← HTB.out] at k3 k4 hput; clear hG)
      all_goals
        go_wp2
        go_end0
        exact ⟨rfl, hput⟩
end
end Go.Proofs.Ytlbmcdoldnajoab
