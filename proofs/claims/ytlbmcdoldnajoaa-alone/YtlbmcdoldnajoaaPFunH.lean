import Derived.Test.YtlbmcdoldnajoaaPFunG

namespace Go.Proofs.Ytlbmcdoldnajoaa
open Go.RowKit
attribute [local go_sem ↓] wStM wStR wLdM wLdR wLdK wStK wLdA wStA wLdG wStG wLdW wStW
/-- the blocks that the desk has had so far -/
def cut (o : Nat → Option Nat) (w : World) : Nat → Option Nat := fun k => if k < w.heap.size then o k else none
theorem own_cut (o : Nat → Option Nat) (w : World) : Own w o (cut o w) := fun _ hk => if_pos hk
theorem cut_new {o : Nat → Option Nat} {w : World} {k : Nat} (h : w.heap.size ≤ k) : cut o w k = none := if_neg (by omega)
theorem Stp.uncut {o : Nat → Option Nat} {w w' : World} {b : Nat} {ts : List Nat} {wb : Nat} {p' : PM} (h : Stp (cut o w) w b ts wb p' w') : Stp o w b ts wb p' w' := by
  obtain ⟨o2, v2, g1, g2, g3, g4, g5⟩ := h
  exact ⟨o2, v2, g1, fun k hk => (g2 k hk).trans (if_pos hk), g3.mono (fun k hk hm => by unfold Mine cut at *; simpa [hk] using hm), g4, g5⟩
/-- a note, in cells -/
def noteA (r : Int × Nat × Nat) : Value := .agg #[.int .i64 r.1, .int .i64 (r.2.1 : Int), .int .i64 (r.2.2 : Int)]
/-- what a call that hands back a note leaves -/
def Noted (o : Nat → Option Nat) (w : World) (b : Nat) (v : PV) (r : PM × Int × Nat × Nat) (e : Ending) (w' : World) : Prop := e = .returned (noteA r.2) ∧ Stp o w b v.ts v.wb r.1 w'
/-- a call has a box of its own at the first new block -/
structure NowB (o : Nat → Option Nat) (w : World) (b : Nat) (v : PV) (T : TypeId) (c : Array Value) (o1 : Nat → Option Nat) (W : World) (p1 : PM) (v1 : PV) : Prop where
  now : Now (cut o w) w b v o1 W p1 v1
  box : W.heap[w.heap.size]? = some (.cells c T (0, 0))
  no : o1 w.heap.size = none
namespace NowB
variable {o o1 o2 : Nat → Option Nat} {w W W' : World} {b : Nat} {v v1 v2 : PV} {p p1 p2 : PM} {T : TypeId} {c : Array Value}
theorem start (h : PD o w b p v) : NowB o w b v T c (cut o w) (w.alloc (.cells c T)) p v :=
  ⟨(Now.start (h.own (own_cut o w))).below ((Below.refl _ _).alloc (Nat.le_refl _) _), heap_alloc_new _ _, cut_new (Nat.le_refl _)⟩
theorem below (h : NowB o w b v T c o1 W p1 v1) (hb : Below W.heap.size W W') : NowB o w b v T c o1 W' p1 v1 := ⟨h.now.below hb, (hb.block _ (blk_lt h.box)).trans h.box, h.no⟩
theorem upd (h : NowB o w b v T c o1 W p1 v1) (h1 : PD o2 W' b p2 v2) (h2 : Own W o1 o2) (h3 : Fr (Mine o1) W W') (h4 : v2.ts = v1.ts) (h5 : v2.wb = v1.wb) : NowB o w b v T c o2 W' p2 v2 :=
  ⟨h.now.upd h1 h2 h3 h4 h5, h3.blk h.box (fun hm => hm h.no), (h2 _ (blk_lt h.box)).trans h.no⟩
theorem stp (h : NowB o w b v T c o1 W p1 v1) (hs : Stp o1 W b v1.ts v1.wb p2 W') : ∃ o2 v2, NowB o w b v T c o2 W' p2 v2 := by
  obtain ⟨o2, v2, g1, g2, g3, g4, g5⟩ := hs
  exact ⟨o2, v2, h.upd g1 g2 g3 g4 g5⟩
theorem done (h : NowB o w b v T c o1 W p1 v1) : Stp o w b v.ts v.wb p1 W := h.now.done.uncut
/-- the box is written -/
theorem box' (h : NowB o w b v T c o1 W p1 v1) (i : Nat) (x : Value) : NowB o w b v T (c.setIfInBounds i x) o1 (W.setCell ⟨w.heap.size, i, none⟩ x) p1 v1 :=
  have hf : Fr (fun k => k = w.heap.size) W (W.setCell ⟨w.heap.size, i, none⟩ x) := (Fr.refl (fun k => k = w.heap.size) W).setCell (p := ⟨w.heap.size, i, none⟩) (fun _ => rfl) x
  ⟨⟨h.now.pd.fr hf (fun k hk e => by subst e; exact hk h.no) (Own.refl _ _), h.now.own, h.now.fr.trans hf (fun k hk e => by omega), h.now.ts, h.now.wb⟩, blk_set h.box _ _, h.no⟩
theorem drew (h : NowB o w b v T c o1 W p1 v1) : NowB o w b v T c o1 W.drew p1 v1 := h.below (Below.refl _ W).drew
end NowB
section
variable {o : Nat → Option Nat} {w : World} {b : Nat} {p : PM} {v : PV}
/-- what is asked of the desk at a pick -/
structure Fits (p : PM) : Prop where
  tasks : p.tasks.length ≤ 1000000000
  queue : p.queue.length ≤ 1000000000 ∧ ∀ n ∈ p.queue, 1 ≤ n ∧ n ≤ p.tasks.length
  urg : p.urgent.length ≤ 1000000000 ∧ ∀ n ∈ p.urgent, 1 ≤ n ∧ n ≤ p.tasks.length
  known : p.known.length ≤ 999999999
  count : p.count ≤ 1000000000
  wks : p.workers.length ≤ 1000
  wk : ∀ i, i < p.workers.length → (p.wk i).ticket ≤ p.tasks.length
  told : ∀ i, i < p.workers.length → (p.wk i).x.told.length ≤ 1000
  nums : ∀ i, i < p.tasks.length → (p.tasks.getD i task0).tries ≤ 1000000000 ∧ (p.tasks.getD i task0).failed ≤ 1000000000
set_option maxRecDepth 100000 in
set_option maxHeartbeats 400000 in
theorem look_any (h : PD o w b p v) (hF : Fits p) {i : Nat} (hi : i < p.workers.length) (ht : (p.wk i).ticket ≠ 0) :
    Calls Try.prog 112 #[ptrV b, .pointer (some ⟨v.wb, i * 74, none⟩)] w fun e w' => Noted o w b v (p.look i) e w' := by
  have H : Hid (PD o w b p v) := h
  have HF : Hid (Fits p) := hF
  have ht2 := hF.wk i hi
  obtain ⟨n, hn⟩ : ∃ n, n = (p.wk i).ticket := ⟨_, rfl⟩
  rw [← hn] at ht ht2
  obtain ⟨j, hj⟩ : ∃ j, n = j + 1 := ⟨n - 1, by omega⟩
  have hjl : j < p.tasks.length := by omega
  have HNJ : Hid (n = j + 1 ∧ n = (p.wk i).ticket ∧ j < p.tasks.length) := ⟨hj, hn, hjl⟩
  have c0 : w.cell? ⟨v.wb, i * 74, none⟩ = some (.pointer (some ⟨v.ts.getD j 0, 0, none⟩)) := by rw [h.cWkT hi, ← hn, tkO, if_neg ht, tkV, hj]; rfl
  have c1 : w.cell? ⟨v.ts.getD j 0, 0, none⟩ = some (.int .i64 (n : Int)) := by rw [h.cTk hjl 0, hj]; rfl
  have hl0 := blk_lt (h.work nX).2
  have hl1 := blk_lt (h.task hjl)
  generalize v.ts.getD j 0 = tb at c0 c1 hl1
  unfold ptrV
  clear h hn hj hjl hF
  go_enter Try.func112, Try.ntmps112
  go_wp2_with fail
  refine name_calls (p := fun W => NowB o w b v 135 #[.int .i64 0, .int .i64 0, .int .i64 0] (cut o w) W p v) (NowB.start H.out) ?_
  rintro W0 hW0
  have HW0 : Hid (NowB o w b v 135 #[.int .i64 0, .int .i64 0, .int .i64 0] (cut o w) W0 p v) := hW0
  clear hW0 c0 c1 hl0 hl1
  refine (attempt_any HW0.out.now.pd hi (by rw [← HNJ.out.2.1]; exact ht) (by rw [← HNJ.out.2.1]; exact ht2)).mono ?_
  rintro e W1 ⟨rfl, hb1⟩
  have HW1 : Hid (NowB o w b v 135 #[.int .i64 0, .int .i64 0, .int .i64 0] (cut o w) W1 p v) := HW0.out.below hb1
  clear hb1 HW0
  have hok := PM.attempt_ok HW1.out.now.pd hi
  obtain ⟨t, hte⟩ : ∃ t, t = p.attempt i := ⟨_, rfl⟩
  have HT : Hid (t = p.attempt i ∧ t.ticket = n) := ⟨hte, by rw [hte, HNJ.out.2.1]; rfl⟩
  rw [← hte] at hok ⊢
  clear hte
  obtain ⟨ct, hct⟩ : ∃ ct, ct = (atC t).toArray := ⟨_, rfl⟩
  have HCT : Hid (ct = (atC t).toArray) := hct
  rw [← hct]
  clear hct
  go_wp2
  refine wp_stN (T := 181) W1.heap.size (by rfl) (by rfl) (by rfl) (by exact heap_alloc_new _ _) (by rw [HCT.out, Try.sizeA]; simp [atC_len hok]) (by rw [HCT.out]; simp [atC_len hok]) (by rw [HCT.out]; exact atC_one _) ?_
  rintro W2 hW2 hF2
  have HW2 : Hid (NowB o w b v 135 #[.int .i64 0, .int .i64 0, .int .i64 0] (cut o w) W2 p v ∧ AtBlk W2 W1.heap.size t) := ⟨HW1.out.below (((Below.refl _ W1).alloc (Nat.le_refl _) _).trans (hF2.below (by omega) (by simp))), by rw [HCT.out] at hW2; exact hW2⟩
  clear hW2 hF2 HW1
  go_wp2
  refine wp_tail 4 (by kernel_rfl) ?_
  simp only [List.take_succ_cons, List.take_zero, List.drop_succ_cons, List.drop_zero]
  iterate 3 still_step
  refine wpStill_step (fun K hK => still_ld (T := 181) W1.heap.size 0 (by rfl) (by rfl) (by rfl) (by exact HW2.out.2.at) (by exact Try.underlying181) (by rfl) (by rw [Try.sizeA, atC_len hok]) (hK _ ?_))
  refine wpStill_nil ?_
  go_wp2_with fail
  refine (partner_any HW2.out.1.drew.now.pd t hok (by have := HF.out.known; omega)).mono ?_
  rintro e W3 ⟨rfl, hb3⟩
  have HW3 : Hid (NowB o w b v 135 #[.int .i64 0, .int .i64 0, .int .i64 0] (cut o w) W3 p v ∧ AtBlk W3 W1.heap.size t) := ⟨HW2.out.1.drew.below hb3, (hb3.block _ (blk_lt HW2.out.2)).trans HW2.out.2⟩
  clear hb3 HW2
  obtain ⟨pn, hpn⟩ : ∃ pn, pn = partnerK t p.known := ⟨_, rfl⟩
  have HPN : Hid (pn = partnerK t p.known) := hpn
  rw [← hpn]
  clear hpn
  by_cases hz : pn = 0
  · subst hz
    have HLk : Hid (p.look i = ((p.add t).accept i, 3, n, 0)) := by
      show _ = _
      unfold PM.look
      simp only
      rw [← HT.out.1, ← HPN.out, if_neg (by simp), HT.out.2]
    go_wp2
    refine wp_tail 4 (by kernel_rfl) ?_
    simp only [List.take_succ_cons, List.take_zero, List.drop_succ_cons, List.drop_zero]
    iterate 3 still_step
    refine wpStill_step (fun K hK => still_ld (T := 181) W1.heap.size 0 (by rfl) (by rfl) (by rfl) (by exact HW3.out.2.at) (by exact Try.underlying181) (by rfl) (by rw [Try.sizeA, atC_len hok]) (hK _ ?_))
    refine wpStill_nil ?_
    go_wp2_with fail
    refine (add_pd HW3.out.1.drew.now.pd t hok (by have := HF.out.known; omega) HF.out.count).mono ?_
    rintro e W4 ⟨rfl, hs4⟩
    obtain ⟨o4, v4, hW4⟩ := HW3.out.1.drew.stp hs4
    have HW4 : Hid (NowB o w b v 135 #[.int .i64 0, .int .i64 0, .int .i64 0] o4 W4 (p.add t) v4) := hW4
    clear hs4 hW4 HW3
    go_wp2_with fail
    have hA := accept_any (p := p.add t) (i := i) HW4.out.now.pd hi (by show (p.wk i).ticket ≠ 0; rw [← HNJ.out.2.1]; exact ht) (by show (p.wk i).ticket ≤ p.tasks.length; rw [← HNJ.out.2.1]; exact ht2) (HF.out.told i hi) (by show (p.known ++ _).length ≤ _; rw [List.length_append, List.length_singleton]; have := HF.out.known; omega) HF.out.wks HF.out.urg.1 HF.out.urg.2
    rw [HW4.out.now.wb] at hA
    unfold ptrV at hA
    refine hA.mono ?_
    clear hA
    rintro e W5 ⟨rfl, hs5⟩
    obtain ⟨o5, v5, hW5⟩ := HW4.out.stp hs5
    have HW5 : Hid (NowB o w b v 135 #[.int .i64 0, .int .i64 0, .int .i64 0] o5 W5 ((p.add t).accept i) v5) := hW5
    clear hs5 hW5 HW4
    obtain ⟨z0, z1, z2, zf⟩ : W5.cell? ⟨w.heap.size, 0, none⟩ = some (.int .i64 0) ∧ W5.cell? ⟨w.heap.size, 1, none⟩ = some (.int .i64 0) ∧ W5.cell? ⟨w.heap.size, 2, none⟩ = some (.int .i64 0) ∧ (∀ i, W5.frozen? ⟨w.heap.size, i, none⟩ = false) := ⟨by rw [blk_cell HW5.out.box]; rfl, by rw [blk_cell HW5.out.box]; rfl, by rw [blk_cell HW5.out.box]; rfl, fun _ => blk_free HW5.out.box⟩
    go_wp2
    refine bodyPost_ret (v := noteA (3, n, 0)) (by simp [results, Try.results112, go_sem, z0, z1, z2, noteA]) rfl ?_
    rw [HLk.out]
    exact ⟨rfl, (((HW5.out.box' 0 _).box' 1 _).box' 2 _).done⟩
  · have hz' : ¬ (pn : Int) = 0 := by omega
    have HLk : Hid (p.look i = (p.retry i, 4, n, pn)) := by
      show _ = _
      unfold PM.look
      simp only
      rw [← HT.out.1, ← HPN.out, if_pos hz, HT.out.2]
    go_wp2_with fail
    have hA := retry_any (i := i) HW3.out.1.now.pd hi (by rw [← HNJ.out.2.1]; exact ht) (by rw [← HNJ.out.2.1]; exact ht2) (by rw [PM.task, ← HNJ.out.2.1, HNJ.out.1]; exact (HF.out.nums j HNJ.out.2.2).2) (by have := HF.out.known; omega) HF.out.wks HF.out.urg.1 HF.out.queue.1
    unfold ptrV at hA
    refine hA.mono ?_
    clear hA
    rintro e W5 ⟨rfl, hs5⟩
    obtain ⟨o5, v5, hW5⟩ := HW3.out.1.stp hs5
    have HW5 : Hid (NowB o w b v 135 #[.int .i64 0, .int .i64 0, .int .i64 0] o5 W5 (p.retry i) v5) := hW5
    clear hs5 hW5 HW3
    obtain ⟨z0, z1, z2, zf⟩ : W5.cell? ⟨w.heap.size, 0, none⟩ = some (.int .i64 0) ∧ W5.cell? ⟨w.heap.size, 1, none⟩ = some (.int .i64 0) ∧ W5.cell? ⟨w.heap.size, 2, none⟩ = some (.int .i64 0) ∧ (∀ i, W5.frozen? ⟨w.heap.size, i, none⟩ = false) := ⟨by rw [blk_cell HW5.out.box]; rfl, by rw [blk_cell HW5.out.box]; rfl, by rw [blk_cell HW5.out.box]; rfl, fun _ => blk_free HW5.out.box⟩
    go_wp2
    refine bodyPost_ret (v := noteA (4, n, pn)) (by simp [results, Try.results112, go_sem, z0, z1, z2, noteA]) rfl ?_
    rw [HLk.out]
    exact ⟨rfl, (((HW5.out.box' 0 _).box' 1 _).box' 2 _).done⟩
end
end Go.Proofs.Ytlbmcdoldnajoaa
