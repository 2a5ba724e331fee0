import Derived.Test.YtlbmcdoldnajoaaGreatPFunG
set_option maxRecDepth 100000
set_option maxHeartbeats 400000
namespace Go.Proofs.YtlbmcdoldnajoaaGreat
open Go.RowKit
attribute [local go_sem ↓] wStM wStR wLdM wLdR wLdK wStK wLdA wStA wLdG wStG wLdW wStW
def cut (o : Nat → Option Nat) (w : World) : Nat → Option Nat := fun k => if k < w.heap.size then o k else none
theorem own_cut (o : Nat → Option Nat) (w : World) : Own w o (cut o w) := fun _ hk => if_pos hk
theorem cut_new {o : Nat → Option Nat} {w : World} {k : Nat} (h : w.heap.size ≤ k) : cut o w k = none := if_neg (by omega)
theorem Stp.uncut {o : Nat → Option Nat} {w w' : World} {b : Nat} {ts : List Nat} {wb : Nat} {p' : PM} (h : Stp (cut o w) w b ts wb p' w') : Stp o w b ts wb p' w' := by
  obtain ⟨o2, v2, g1, g2, g3, g4, g5⟩ := h
  exact ⟨o2, v2, g1, fun k hk => (g2 k hk).trans (if_pos hk), g3.mono (fun k hk hm => by unfold Mine cut at *; simpa [hk] using hm), g4, g5⟩
def noteA (r : Int × Nat × Nat) : Value := .agg #[.int .i64 r.1, .int .i64 (r.2.1 : Int), .int .i64 (r.2.2 : Int)]
def Noted (o : Nat → Option Nat) (w : World) (b : Nat) (v : PV) (r : PM × Int × Nat × Nat) (e : Ending) (w' : World) : Prop := e = .returned (noteA r.2) ∧ Stp o w b v.ts v.wb r.1 w'
structure NowB (o : Nat → Option Nat) (w : World) (b : Nat) (v : PV) (T : TypeId) (c : Array Value) (o1 : Nat → Option Nat) (W : World) (p1 : PM) (v1 : PV) : Prop where
  now : Now (cut o w) w b v o1 W p1 v1
  box : W.heap[w.heap.size]? = some (.cells c T (0, 0))
  no : o1 w.heap.size = none
namespace NowB
variable {o o1 o2 : Nat → Option Nat} {w W W' : World} {b : Nat} {v v1 v2 : PV} {p p1 p2 : PM} {T : TypeId} {c : Array Value}
theorem start (h : PD o w b p v) : NowB o w b v T c (cut o w) (w.alloc (.cells c T)) p v :=
  ⟨(Now.start (h.own (own_cut o w))).below ((Below.refl _ _).alloc (Nat.le_refl _) _), heap_alloc_new _ _, cut_new (Nat.le_refl _)⟩
theorem below (h : NowB o w b v T c o1 W p1 v1) (hb : Below W.heap.size W W') : NowB o w b v T c o1 W' p1 v1 := ⟨h.now.below hb, (hb.block _ (blk_lt h.box)).trans h.box, h.no⟩
theorem upd (h : NowB o w b v T c o1 W p1 v1) (h1 : PD o2 W' b p2 v2) (h2 : Own W o1 o2) (h3 : Fr (Mine o1) W W') (h4 : v2.ts = v1.ts) (h5 : v2.wb = v1.wb) : NowB o w b v T c o2 W' p2 v2 :=
  ⟨h.now.upd h1 h2 h3 h4 h5, h3.blk h.box (fun hm => hm h.no), (h2 _ (blk_lt h.box)).trans h.no⟩
theorem stp (h : NowB o w b v T c o1 W p1 v1) (hs : Stp o1 W b v1.ts v1.wb p2 W') : ∃ o2 v2, NowB o w b v T c o2 W' p2 v2 := by
  obtain ⟨o2, v2, g1, g2, g3, g4, g5⟩ := hs
  exact ⟨o2, v2, h.upd g1 g2 g3 g4 g5⟩
theorem done (h : NowB o w b v T c o1 W p1 v1) : Stp o w b v.ts v.wb p1 W := h.now.done.uncut
theorem box' (h : NowB o w b v T c o1 W p1 v1) (i : Nat) (x : Value) : NowB o w b v T (c.setIfInBounds i x) o1 (W.setCell ⟨w.heap.size, i, none⟩ x) p1 v1 :=
  have hf : Fr (fun k => k = w.heap.size) W (W.setCell ⟨w.heap.size, i, none⟩ x) := (Fr.refl (fun k => k = w.heap.size) W).setCell (p := ⟨w.heap.size, i, none⟩) (fun _ => rfl) x
  ⟨⟨h.now.pd.fr hf (fun k hk e => by subst e; exact hk h.no) (Own.refl _ _), h.now.own, h.now.fr.trans hf (fun k hk e => by omega), h.now.ts, h.now.wb⟩, blk_set h.box _ _, h.no⟩
theorem drew (h : NowB o w b v T c o1 W p1 v1) : NowB o w b v T c o1 W.drew p1 v1 := h.below (Below.refl _ W).drew
end NowB
section
variable {o : Nat → Option Nat} {w : World} {b : Nat} {p : PM} {v : PV}
structure Fits (p : PM) : Prop where
  tasks : p.tasks.length ≤ 1000000000
  queue : p.queue.length ≤ 1000000000 ∧ ∀ n ∈ p.queue, 1 ≤ n ∧ n ≤ p.tasks.length
  urg : p.urgent.length ≤ 1000000000 ∧ ∀ n ∈ p.urgent, 1 ≤ n ∧ n ≤ p.tasks.length
  known : p.known.length ≤ 999999999
  count : p.count ≤ 1000000000
  wks : p.workers.length ≤ 1000
  wk : ∀ i, i < p.workers.length → (p.wk i).ticket ≤ p.tasks.length
  told : ∀ i, i < p.workers.length → (p.wk i).x.told.length ≤ 1000
  nums : ∀ i, i < p.tasks.length → (p.tasks.getD i task0).tries ≤ 1000000000 ∧ (p.tasks.getD i task0).failed ≤ 1000000000
theorem look_any (h : PD o w b p v) (hF : Fits p) {i : Nat} (hi : i < p.workers.length) (ht : (p.wk i).ticket ≠ 0) :
    Calls Tryz.prog 93 #[ptrV b, .pointer (some ⟨v.wb, i * 74, none⟩)] w fun e w' => Noted o w b v (p.look i) e w' := by
  have H : Hid (PD o w b p v) := h
  have HF : Hid (Fits p) := hF
  have ht2 := hF.wk i hi
  obtain ⟨n, hn⟩ : ∃ n, n = (p.wk i).ticket := ⟨_, rfl⟩
  rw [← hn] at ht ht2
  obtain ⟨j, hj⟩ : ∃ j, n = j + 1 := ⟨n - 1, by omega⟩
  have hjl : j < p.tasks.length := by omega
  have HNJ : Hid (n = j + 1 ∧ n = (p.wk i).ticket ∧ j < p.tasks.length) := ⟨hj, hn, hjl⟩
  have c0 : w.cell? ⟨v.wb, i * 74, none⟩ = some (.pointer (some ⟨v.ts.getD j 0, 0, none⟩)) := by rw [h.cWkT hi, ← hn, tkO, if_neg ht, tkV, hj]; rfl
  have c1 : w.cell? ⟨v.ts.getD j 0, 0, none⟩ = some (.int .i64 (n : Int)) := by rw [h.cTk hjl 0, hj]; rfl
  have hl0 := blk_lt (h.work nX).2
  have hl1 := blk_lt (h.task hjl)
  generalize v.ts.getD j 0 = tb at c0 c1 hl1
  unfold ptrV
  clear h hn hj hjl hF
  go_enter Tryz.func93, Tryz.ntmps93
  go_wp2_with fail
  refine name_calls (p := fun W => NowB o w b v 122 #[.int .i64 0, .int .i64 0, .int .i64 0] (cut o w) W p v) (NowB.start H.out) ?_
  rintro W0 hW0
  have HW0 : Hid (NowB o w b v 122 #[.int .i64 0, .int .i64 0, .int .i64 0] (cut o w) W0 p v) := hW0
  clear hW0 c0 c1 hl0 hl1
  refine (attempt_any HW0.out.now.pd hi (by rw [← HNJ.out.2.1]; exact ht) (by rw [← HNJ.out.2.1]; exact ht2)).mono ?_
  rintro e W1 ⟨rfl, hb1⟩
  have HW1 : Hid (NowB o w b v 122 #[.int .i64 0, .int .i64 0, .int .i64 0] (cut o w) W1 p v) := HW0.out.below hb1
  clear hb1 HW0
  have hok := PM.attempt_ok HW1.out.now.pd hi
  obtain ⟨t, hte⟩ : ∃ t, t = p.attempt i := ⟨_, rfl⟩
  have HT : Hid (t = p.attempt i ∧ t.ticket = n) := ⟨hte, by rw [hte, HNJ.out.2.1]; rfl⟩
  rw [← hte] at hok ⊢
  clear hte
  obtain ⟨ct, hct⟩ : ∃ ct, ct = (atC t).toArray := ⟨_, rfl⟩
  have HCT : Hid (ct = (atC t).toArray) := hct
  rw [← hct]
  clear hct
  go_wp2
  refine wp_stN (T := 163) W1.heap.size (by rfl) (by rfl) (by rfl) (by exact heap_alloc_new _ _) (by rw [HCT.out, Tryz.sizeA]; simp [atC_len hok]) (by rw [HCT.out]; simp [atC_len hok]) (by rw [HCT.out]; exact atC_one _) ?_
  rintro W2 hW2 hF2
  have HW2 : Hid (NowB o w b v 122 #[.int .i64 0, .int .i64 0, .int .i64 0] (cut o w) W2 p v ∧ AtBlk W2 W1.heap.size t) := ⟨HW1.out.below (((Below.refl _ W1).alloc (Nat.le_refl _) _).trans (hF2.below (by omega) (by simp))), by rw [HCT.out] at hW2; exact hW2⟩
  clear hW2 hF2 HW1
  go_wp2
  refine wp_tail 4 (by kernel_rfl) ?_
  simp only [List.take_succ_cons, List.take_zero, List.drop_succ_cons, List.drop_zero]
  iterate 3 still_step
  refine wpStill_step (fun K hK => still_ld (T := 163) W1.heap.size 0 (by rfl) (by rfl) (by rfl) (by exact HW2.out.2.at) (by exact Tryz.underlying163) (by rfl) (by rw [Tryz.sizeA, atC_len hok]) (hK _ ?_))
  refine wpStill_nil ?_
  go_wp2_with fail
  refine (partner_any HW2.out.1.drew.now.pd t hok (by have := HF.out.known; omega)).mono ?_
  rintro e W3 ⟨rfl, hb3⟩
  have HW3 : Hid (NowB o w b v 122 #[.int .i64 0, .int .i64 0, .int .i64 0] (cut o w) W3 p v ∧ AtBlk W3 W1.heap.size t) := ⟨HW2.out.1.drew.below hb3, (hb3.block _ (blk_lt HW2.out.2)).trans HW2.out.2⟩
  clear hb3 HW2
  obtain ⟨pn, hpn⟩ : ∃ pn, pn = partnerK t p.known := ⟨_, rfl⟩
  have HPN : Hid (pn = partnerK t p.known) := hpn
  rw [← hpn]
  clear hpn
  by_cases hz : pn = 0
  · subst hz
    have HLk : Hid (p.look i = ((p.add t).accept i, 3, n, 0)) := by
      show _ = _
      unfold PM.look
      simp only
      rw [← HT.out.1, ← HPN.out, if_neg (by simp), HT.out.2]
    go_wp2
    refine wp_tail 4 (by kernel_rfl) ?_
    simp only [List.take_succ_cons, List.take_zero, List.drop_succ_cons, List.drop_zero]
    iterate 3 still_step
    refine wpStill_step (fun K hK => still_ld (T := 163) W1.heap.size 0 (by rfl) (by rfl) (by rfl) (by exact HW3.out.2.at) (by exact Tryz.underlying163) (by rfl) (by rw [Tryz.sizeA, atC_len hok]) (hK _ ?_))
    refine wpStill_nil ?_
    go_wp2_with fail
    refine (add_pd HW3.out.1.drew.now.pd t hok (by have := HF.out.known; omega) HF.out.count).mono ?_
    rintro e W4 ⟨rfl, hs4⟩
    obtain ⟨o4, v4, hW4⟩ := HW3.out.1.drew.stp hs4
    have HW4 : Hid (NowB o w b v 122 #[.int .i64 0, .int .i64 0, .int .i64 0] o4 W4 (p.add t) v4) := hW4
    clear hs4 hW4 HW3
    go_wp2_with fail
    have hA := accept_any (p := p.add t) (i := i) HW4.out.now.pd hi (by show (p.wk i).ticket ≠ 0; rw [← HNJ.out.2.1]; exact ht) (by show (p.wk i).ticket ≤ p.tasks.length; rw [← HNJ.out.2.1]; exact ht2) (HF.out.told i hi) (by show (p.known ++ _).length ≤ _; rw [List.length_append, List.length_singleton]; have := HF.out.known; omega) HF.out.wks HF.out.urg.1 HF.out.urg.2
    rw [HW4.out.now.wb] at hA
    unfold ptrV at hA
    refine hA.mono ?_
    clear hA
    rintro e W5 ⟨rfl, hs5⟩
    obtain ⟨o5, v5, hW5⟩ := HW4.out.stp hs5
    have HW5 : Hid (NowB o w b v 122 #[.int .i64 0, .int .i64 0, .int .i64 0] o5 W5 ((p.add t).accept i) v5) := hW5
    clear hs5 hW5 HW4
    obtain ⟨z0, z1, z2, zf⟩ : W5.cell? ⟨w.heap.size, 0, none⟩ = some (.int .i64 0) ∧ W5.cell? ⟨w.heap.size, 1, none⟩ = some (.int .i64 0) ∧ W5.cell? ⟨w.heap.size, 2, none⟩ = some (.int .i64 0) ∧ (∀ i, W5.frozen? ⟨w.heap.size, i, none⟩ = false) := ⟨by rw [blk_cell HW5.out.box]; rfl, by rw [blk_cell HW5.out.box]; rfl, by rw [blk_cell HW5.out.box]; rfl, fun _ => blk_free HW5.out.box⟩
    go_wp2
    refine bodyPost_ret (v := noteA (3, n, 0)) (by simp [results, Tryz.results93, go_sem, z0, z1, z2, noteA]) rfl ?_
    rw [HLk.out]
    exact ⟨rfl, (((HW5.out.box' 0 _).box' 1 _).box' 2 _).done⟩
  · have hz' : ¬ (pn : Int) = 0 := by omega
    have HLk : Hid (p.look i = (p.retry i, 4, n, pn)) := by
      show _ = _
      unfold PM.look
      simp only
      rw [← HT.out.1, ← HPN.out, if_pos hz, HT.out.2]
    go_wp2_with fail
    have hA := retry_any (i := i) HW3.out.1.now.pd hi (by rw [← HNJ.out.2.1]; exact ht) (by rw [← HNJ.out.2.1]; exact ht2) (by rw [PM.task, ← HNJ.out.2.1, HNJ.out.1]; exact (HF.out.nums j HNJ.out.2.2).2) (by have := HF.out.known; omega) HF.out.wks HF.out.urg.1 HF.out.queue.1
    unfold ptrV at hA
    refine hA.mono ?_
    clear hA
    rintro e W5 ⟨rfl, hs5⟩
    obtain ⟨o5, v5, hW5⟩ := HW3.out.1.stp hs5
    have HW5 : Hid (NowB o w b v 122 #[.int .i64 0, .int .i64 0, .int .i64 0] o5 W5 (p.retry i) v5) := hW5
    clear hs5 hW5 HW3
    obtain ⟨z0, z1, z2, zf⟩ : W5.cell? ⟨w.heap.size, 0, none⟩ = some (.int .i64 0) ∧ W5.cell? ⟨w.heap.size, 1, none⟩ = some (.int .i64 0) ∧ W5.cell? ⟨w.heap.size, 2, none⟩ = some (.int .i64 0) ∧ (∀ i, W5.frozen? ⟨w.heap.size, i, none⟩ = false) := ⟨by rw [blk_cell HW5.out.box]; rfl, by rw [blk_cell HW5.out.box]; rfl, by rw [blk_cell HW5.out.box]; rfl, fun _ => blk_free HW5.out.box⟩
    go_wp2
    refine bodyPost_ret (v := noteA (4, n, pn)) (by simp [results, Tryz.results93, go_sem, z0, z1, z2, noteA]) rfl ?_
    rw [HLk.out]
    exact ⟨rfl, (((HW5.out.box' 0 _).box' 1 _).box' 2 _).done⟩
end
end Go.Proofs.YtlbmcdoldnajoaaGreat
namespace Go.Proofs.YtlbmcdoldnajoaaGreat
open Go.RowKit
attribute [local go_sem ↓] wStM wStR wLdM wLdR wLdK wStK wLdA wStA wLdG wStG wLdW wStW
theorem steps_own {w : World} {v : Value} {l : List St} (h : w.ownsRow 0 95 4 v l.length (stCells l)) : ∃ ao cap, v = .slice ao l.length cap ∧ (l = [] ∨ ∃ g, ao = some ⟨g, 0, none⟩ ∧ g < w.heap.size ∧ StepsAt w g 0 l) := by
  obtain ⟨ao, cap, hv⟩ := owns_form h
  refine ⟨ao, cap, hv, ?_⟩
  by_cases hl : l = []
  · exact Or.inl hl
  · have hp : 0 < l.length := List.length_pos_iff.2 hl
    obtain ⟨g, c, hv2, hg, hc⟩ := owns_pos h hp
    rw [hv] at hv2
    injection hv2 with h1
    refine Or.inr ⟨g, h1, hg, stepsAt_of_cells (fun j u hj => ?_)⟩
    have hjl : j < (stCells l).length := (List.getElem?_eq_some_iff.1 hj).1
    rw [length_stCells] at hjl
    rw [Nat.zero_add, hc j hjl]
    exact hj
structure RunsOk (p : PM) (i : Nat) : Prop where
  st : (p.wk i).st = 2
  fin : (p.wk i).x.fin = 0
  done : (p.wk i).x.done ≤ p.c.fuel
  fuel : p.c.fuel ≤ 200
  ok : MoOk (p.task (p.wk i).ticket).steps.length (p.wk i).x
  job : jobB (p.task (p.wk i).ticket).steps = true
  map : ∀ k, (p.wk i).m k ≤ 9999
theorem nextE_told {l : List St} {m : Int → Int} {fn : Nat} {x : Mo} (hok : MoOk l.length x) (hj : jobB l = true) (hm : ∀ k, m k ≤ 9999) (hd : x.done ≤ fn) (hf : fn ≤ 200) : (nextE l m fn x).2.told.length ≤ 1000 := by
  have h0 := hok.told
  unfold nextE
  split
  · simp only; omega
  · split
    · simp only; omega
    · rename_i h1 h2
      have hpc : x.pc < l.length := by omega
      have := (stp_ok hok hpc hm ((jobB_at hj).2 _ hpc)).told
      rw [stp_done] at this
      simp only
      omega
section
variable {o : Nat → Option Nat} {w : World} {b : Nat} {p : PM} {v : PV}
theorem Fits.set (hF : Fits p) {i : Nat} (hi : i < p.workers.length) {a : WkM} (ha : a.ticket = (p.wk i).ticket) (ht : a.x.told.length ≤ 1000) : Fits { p with workers := p.workers.set i a } := by
  have hw : ∀ k, ({ p with workers := p.workers.set i a } : PM).wk k = if k = i then a else p.wk k := fun k => by
    by_cases e : k = i
    · subst e; simp [PM.wk, List.getD, hi]
    · rw [if_neg e]; simp [PM.wk, List.getD, List.getElem?_set_ne (Ne.symm e)]
  exact { hF with
    wks := by simpa using hF.wks
    wk := fun k hk => by
      rw [hw]
      split
      · rw [ha]; exact hF.wk i hi
      · exact hF.wk k (by simpa using hk)
    told := fun k hk => by
      rw [hw]
      split
      · exact ht
      · exact hF.told k (by simpa using hk) }
theorem goOn_any (h : PD o w b p v) (hF : Fits p) {i : Nat} (hi : i < p.workers.length) (ht : (p.wk i).ticket ≠ 0) (hR : RunsOk p i) :
    Calls Tryz.prog 84 #[ptrV b, .pointer (some ⟨v.wb, i * 74, none⟩)] w fun e w' => Noted o w b v (p.goOn i) e w' := by
  have H : Hid (PD o w b p v) := h
  have HF : Hid (Fits p ∧ RunsOk p i) := ⟨hF, hR⟩
  have ht2 := hF.wk i hi
  obtain ⟨n, hn⟩ : ∃ n, n = (p.wk i).ticket := ⟨_, rfl⟩
  rw [← hn] at ht ht2
  obtain ⟨j, hj⟩ : ∃ j, n = j + 1 := ⟨n - 1, by omega⟩
  have hjl : j < p.tasks.length := by omega
  have htn : p.task (p.wk i).ticket = p.tasks.getD j task0 := by rw [← hn, PM.task, hj]; rfl
  have HNJ : Hid (n = j + 1 ∧ n = (p.wk i).ticket ∧ j < p.tasks.length ∧ p.task (p.wk i).ticket = p.tasks.getD j task0) := ⟨hj, hn, hjl, htn⟩
  obtain ⟨tb, htb⟩ : ∃ tb, tb = v.ts.getD j 0 := ⟨_, rfl⟩
  have HTB : Hid (tb = v.ts.getD j 0) := htb
  have c0 : w.cell? ⟨v.wb, i * 74, none⟩ = some (.pointer (some ⟨tb, 0, none⟩)) := by rw [h.cWkT hi, ← hn, tkO, if_neg ht, tkV, hj, htb]; rfl
  have hl0 := blk_lt (h.work nX).2
  unfold ptrV
  clear h hn hj hjl hF hR htn htb
  go_enter Tryz.func84, Tryz.ntmps84
  go_wp2_with fail
  refine name_wp (p := fun W => NowB o w b v 122 #[.int .i64 0, .int .i64 0, .int .i64 0] (cut o w) W p v) (NowB.start H.out) ?_
  rintro W0 hW0
  have HW0 : Hid (NowB o w b v 122 #[.int .i64 0, .int .i64 0, .int .i64 0] (cut o w) W0 p v) := hW0
  clear hW0 c0 hl0
  obtain ⟨sa, sc, hsv, hsl⟩ := steps_own (HW0.out.now.pd.st j HNJ.out.2.2.1 nX).1
  have HSV : Hid (v.sv.getD j nilV = .slice sa (p.tasks.getD j task0).steps.length sc ∧ ((p.tasks.getD j task0).steps = [] ∨ ∃ g, sa = some ⟨g, 0, none⟩ ∧ g < W0.heap.size ∧ StepsAt W0 g 0 (p.tasks.getD j task0).steps)) := ⟨hsv, hsl⟩
  have htk : W0.heap[tb]? = some (.cells (taskC j (p.tasks.getD j task0) (v.sv.getD j nilV) (v.tv.getD j nilV)) 128 (0, 0)) := by rw [HTB.out]; exact HW0.out.now.pd.task HNJ.out.2.2.1
  have c4 : W0.cell? ⟨tb, 4, none⟩ = some (.slice sa (p.tasks.getD j task0).steps.length sc) := by rw [blk_cell htk, hsv]; rfl
  have cf := HW0.out.now.pd.cCF
  obtain ⟨y, hy⟩ : ∃ y, y = nextE (p.tasks.getD j task0).steps (p.wk i).m p.c.fuel (p.wk i).x := ⟨_, rfl⟩
  obtain ⟨q, hq⟩ : ∃ q : PM, q = { p with workers := p.workers.set i { p.wk i with st := y.1, x := y.2 } } := ⟨_, rfl⟩
  have HNx : Hid (∀ k, Calls Tryz.prog 76 #[.pointer (some ⟨v.wb, i * 74 + 2, none⟩), .slice sa (p.tasks.getD j task0).steps.length sc, .int .i64 (p.c.fuel : Int)] (W0.drewN k) fun e w' => e = .returned (.tuple #[]) ∧ ∃ o1 v1, NowB o w b v 122 #[.int .i64 0, .int .i64 0, .int .i64 0] o1 w' q v1) := fun k => by
    have hk := HW0.out.below (below_drewN (Below.refl _ W0) k)
    have hE := hk.now.pd.eng hi (S := fun k => k = v.wb ∨ cut o w k = some (9 + 4 * i) ∨ W0.heap.size ≤ k) (Or.inl rfl) (fun _ h => Or.inr (Or.inl h))
    rw [HF.out.2.st] at hE
    have hjb : jobB (p.tasks.getD j task0).steps = true := by rw [← HNJ.out.2.2.2]; exact HF.out.2.job
    have hok : MoOk (p.tasks.getD j task0).steps.length (p.wk i).x := by rw [← HNJ.out.2.2.2]; exact HF.out.2.ok
    have hsx : (p.tasks.getD j task0).steps = [] ∨ ∃ g off, sa = some ⟨g, off, none⟩ ∧ g ≠ (wkSpot p v i).b ∧ g < (W0.drewN k).heap.size ∧ StepsAt (W0.drewN k) g off (p.tasks.getD j task0).steps := by
      rcases HSV.out.2 with e | ⟨g, e1, e2, e3⟩
      · exact Or.inl e
      · refine Or.inr ⟨g, 0, e1, fun e => ?_, e2, e3⟩
        have hrow := (HW0.out.now.pd.st j HNJ.out.2.2.1 nX)
        have hb2 := hrow.2 g (by rw [HSV.out.1, e1]; rfl)
        have hb1 := (HW0.out.now.pd.work nX).1
        rw [show v.wb = g from e.symm] at hb1
        rw [hb1] at hb2
        injection hb2 with hb2
        omega
    refine (next_going _ (W0.drewN k) (wkSpot p v i) p.c.fuel _ sa sc _ _ _ (fun k hk => Or.inr (Or.inr hk)) hjb hsx HF.out.2.map HF.out.2.fuel hE HF.out.2.fin HF.out.2.done hok).mono ?_
    rintro e W1 ⟨rfl, tv', hE1, hF1⟩
    have hp := hk.now.pd.putEng hi (tv := tv') (st := y.1) (x := y.2) (by rw [hy]; exact hE1) (by rw [hy]) hF1
    rw [hq]
    exact ⟨rfl, _, _, hk.upd hp.1 (own_grow _ _ _) hp.2 rfl rfl⟩
  have HQ : Hid (p.goOn i = (if y.1 = 2 then (q, 2, n, 0) else q.look i) ∧ q.wk i = { p.wk i with st := y.1, x := y.2 } ∧ i < q.workers.length ∧ Fits q ∧ q.tasks = p.tasks) := by
    have e1 : q.wk i = { p.wk i with st := y.1, x := y.2 } := by subst hq; simp [PM.wk, List.getD, hi]
    refine ⟨?_, e1, by subst hq; simpa using hi, ?_, by subst hq; rfl⟩
    · unfold PM.goOn
      simp only
      rw [HNJ.out.2.2.2, ← hy, ← hq, ← HNJ.out.2.1]
    · subst hq
      refine HF.out.1.set hi rfl ?_
      show y.2.told.length ≤ 1000
      rw [hy, ← HNJ.out.2.2.2]
      exact nextE_told HF.out.2.ok HF.out.2.job HF.out.2.map HF.out.2.done HF.out.2.fuel
  clear hsv hsl htk hy hq
  generalize (p.tasks.getD j task0).steps.length = sl at c4 HNx
  go_region_with (go_at_call 76; refine (HNx.out _).mono ?_; rintro e W1 ⟨rfl, hx⟩; have HW1 : Hid (∃ o1 v1, NowB o w b v 122 #[.int .i64 0, .int .i64 0, .int .i64 0] o1 W1 q v1) := hx; clear hx)
  all_goals
    clear c4 cf HNx HW0
    obtain ⟨o1, v1, hN1⟩ := HW1.out
    have HN1 : Hid (NowB o w b v 122 #[.int .i64 0, .int .i64 0, .int .i64 0] o1 W1 q v1) := hN1
    clear hN1 HW1
    have ct : W1.cell? ⟨tb, 0, none⟩ = some (.int .i64 (n : Int)) := by
      have := HN1.out.now.pd.cTk (i := j) (by rw [HQ.out.2.2.2.2]; exact HNJ.out.2.2.1) 0
      rw [HN1.out.now.ts, ← HTB.out] at this
      rw [this, HNJ.out.1]
      rfl
    have hSt := state_any _ W1 (wkSpot q v1 i) _ _ _ _ (HN1.out.now.pd.eng HQ.out.2.2.1 (S := fun _ => True) trivial (fun _ _ => trivial))
    rw [HQ.out.2.1, show (wkSpot q v1 i).b = v.wb from HN1.out.now.wb, show (wkSpot q v1 i).o = i * 74 + 2 from rfl] at hSt
    go_wp2_with fail
    refine hSt.mono ?_
    clear hSt
    rintro e W2 ⟨rfl, hW⟩
    obtain rfl := hW.symm
    clear hW
    obtain ⟨z0, z1, z2, zf⟩ : W1.cell? ⟨w.heap.size, 0, none⟩ = some (.int .i64 0) ∧ W1.cell? ⟨w.heap.size, 1, none⟩ = some (.int .i64 0) ∧ W1.cell? ⟨w.heap.size, 2, none⟩ = some (.int .i64 0) ∧ (∀ i, W1.frozen? ⟨w.heap.size, i, none⟩ = false) := ⟨by rw [blk_cell HN1.out.box]; rfl, by rw [blk_cell HN1.out.box]; rfl, by rw [blk_cell HN1.out.box]; rfl, fun _ => blk_free HN1.out.box⟩
    by_cases hy2 : y.1 = 2
    · have HG : Hid (p.goOn i = (q, 2, n, 0)) := by show _ = _; rw [HQ.out.1, if_pos hy2]
      go_wp2
      refine bodyPost_ret (v := noteA (2, n, 0)) (by simp [results, Tryz.results84, go_sem, z0, z1, z2, noteA]) rfl ?_
      rw [HG.out]
      exact ⟨rfl, (((HN1.out.box' 0 _).box' 1 _).box' 2 _).done⟩
    · have HG : Hid (p.goOn i = q.look i) := by show _ = _; rw [HQ.out.1, if_neg hy2]
      have hLk := look_any HN1.out.now.pd HQ.out.2.2.2.1 (i := i) HQ.out.2.2.1 (by rw [HQ.out.2.1, ← HNJ.out.2.1]; exact ht)
      rw [HN1.out.now.wb] at hLk
      unfold ptrV at hLk
      go_wp2_with fail
      refine hLk.mono ?_
      clear hLk z0 z1 z2 zf ct
      rintro e W3 ⟨rfl, hs3⟩
      obtain ⟨o3, v3, hN3⟩ := HN1.out.stp hs3
      have HN3 : Hid (NowB o w b v 122 #[.int .i64 0, .int .i64 0, .int .i64 0] o3 W3 (q.look i).1 v3) := hN3
      clear hs3 hN3
      obtain ⟨z0, z1, z2, zf⟩ : W3.cell? ⟨w.heap.size, 0, none⟩ = some (.int .i64 0) ∧ W3.cell? ⟨w.heap.size, 1, none⟩ = some (.int .i64 0) ∧ W3.cell? ⟨w.heap.size, 2, none⟩ = some (.int .i64 0) ∧ (∀ i, W3.frozen? ⟨w.heap.size, i, none⟩ = false) := ⟨by rw [blk_cell HN3.out.box]; rfl, by rw [blk_cell HN3.out.box]; rfl, by rw [blk_cell HN3.out.box]; rfl, fun _ => blk_free HN3.out.box⟩
      obtain ⟨r, hr⟩ : ∃ r, r = q.look i := ⟨_, rfl⟩
      have HRr : Hid (r = q.look i) := hr
      rw [← hr] at HN3 HG ⊢
      clear hr
      unfold noteA
      go_wp2
      refine bodyPost_ret (v := noteA r.2) (by simp [results, Tryz.results84, go_sem, z0, z1, z2, noteA]) rfl ?_
      rw [HG.out]
      exact ⟨rfl, (((HN3.out.box' 0 _).box' 1 _).box' 2 _).done⟩
end
end Go.Proofs.YtlbmcdoldnajoaaGreat
