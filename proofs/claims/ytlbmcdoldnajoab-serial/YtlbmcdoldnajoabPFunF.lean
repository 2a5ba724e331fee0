import Derived.Test.YtlbmcdoldnajoabPFunE

namespace Go.Proofs.Ytlbmcdoldnajoab
open Go.RowKit
attribute [local go_sem ↓] wStM wStR wLdM wLdR wLdK wStK wLdA wStA wLdG wStG wLdW wStW
/-- how far a call has come -/
structure Now (o : Nat → Option Nat) (w : World) (b : Nat) (v : PV) (o1 : Nat → Option Nat) (W : World) (p1 : PM) (v1 : PV) : Prop where
  pd : PD o1 W b p1 v1
  own : Own w o o1
  fr : Fr (Mine o) w W
  ts : v1.ts = v.ts
  wb : v1.wb = v.wb
namespace Now
variable {o o1 o2 : Nat → Option Nat} {w W W' : World} {b : Nat} {v v1 v2 : PV} {p p1 p2 : PM}
theorem start (h : PD o w b p v) : Now o w b v o w p v := ⟨h, Own.refl _ _, Fr.refl _ _, rfl, rfl⟩
theorem upd (h : Now o w b v o1 W p1 v1) (h1 : PD o2 W' b p2 v2) (h2 : Own W o1 o2) (h3 : Fr (Mine o1) W W') (h4 : v2.ts = v1.ts) (h5 : v2.wb = v1.wb) : Now o w b v o2 W' p2 v2 :=
  ⟨h1, h.own.trans h2 h.fr.size, h.fr.mine h3 h.own, h4.trans h.ts, h5.trans h.wb⟩
theorem step (h : Now o w b v o1 W p1 v1) (h1 : PD o1 W' b p2 v2 ∧ Fr (Mine o1) W W') (h4 : v2.ts = v1.ts) (h5 : v2.wb = v1.wb) : Now o w b v o1 W' p2 v2 := h.upd h1.1 (Own.refl _ _) h1.2 h4 h5
theorem stp (h : Now o w b v o1 W p1 v1) (hs : Stp o1 W b v1.ts v1.wb p2 W') : ∃ o2 v2, Now o w b v o2 W' p2 v2 := by
  obtain ⟨o2, v2, g1, g2, g3, g4, g5⟩ := hs
  exact ⟨o2, v2, h.upd g1 g2 g3 g4 g5⟩
theorem below (h : Now o w b v o1 W p1 v1) (hb : Below W.heap.size W W') : Now o w b v o1 W' p1 v1 := ⟨h.pd.below hb, h.own, h.fr.trans (Fr.of_below (S := Mine o) hb) (fun _ _ h => h), h.ts, h.wb⟩
theorem done (h : Now o w b v o1 W p1 v1) : Stp o w b v.ts v.wb p1 W := ⟨o1, v1, h.pd, h.own, h.fr, h.ts, h.wb⟩
end Now
section
variable {o : Nat → Option Nat} {w : World} {b : Nat} {p : PM} {v : PV}
/-- one more at the end of the urgent ones -/
theorem PD.pushU (h : PD o w b p v) {X1 w' : World} (hb : Below w.heap.size w X1) {n g cap : Nat} (hown : w'.ownsRow 0 96 1 (.slice (some ⟨g, 0, none⟩) (p.urgent.length + 1) cap) (p.urgent.length + 1) (p.urgent.map (tkV v.ts) ++ [tkV v.ts n])) (hgrow : X1.grownBy w' v.uv.ownBlock) (hat : v.uv.ownBlock = some g ∨ w.heap.size ≤ g) :
    (PD (grow w o 3) (w'.setCell ⟨b, 40, none⟩ (.slice (some ⟨g, 0, none⟩) (p.urgent.length + 1) cap)) b { p with urgent := p.urgent ++ [n] } { v with uv := .slice (some ⟨g, 0, none⟩) (p.urgent.length + 1) cap } ∧ Fr (Mine o) w (w'.setCell ⟨b, 40, none⟩ (.slice (some ⟨g, 0, none⟩) (p.urgent.length + 1) cap))) ∧ w'.cell? ⟨b, 40, none⟩ = some v.uv ∧ w'.frozen? ⟨b, 40, none⟩ = false := by
  have hr := h.urg nX
  have hf : Fr (fun k => o k = some 3) w w' := (Fr.of_below (S := fun k => o k = some 3) hb).grown hgrow (fun k hk _ => hr.2 k hk)
  have hnb : ¬ o b = some 3 := by rw [(h.blk nX).1]; simp
  refine ⟨h.setUrg (own_grow w o 3) hf ⟨?_, fun k hk => ?_⟩, (hf.cell h.lt hnb).trans h.cUrg, (hf.frozen h.lt hnb).trans (h.free _)⟩
  · rw [List.length_append, List.length_singleton, List.map_append]
    exact hown
  · injection hk with hk
    have hk : g = k := hk
    subst hk
    rcases hat with hat | hat
    · unfold grow
      by_cases hl : g < w.heap.size
      · rw [if_pos hl]; exact hr.2 g hat
      · rw [if_neg hl]
    · exact grow_new hat
/-- one more at the end of the queue -/
theorem PD.pushQ (h : PD o w b p v) {X1 w' : World} (hb : Below w.heap.size w X1) {n g cap : Nat} (hown : w'.ownsRow 0 96 1 (.slice (some ⟨g, 0, none⟩) (p.queue.length + 1) cap) (p.queue.length + 1) (p.queue.map (tkV v.ts) ++ [tkV v.ts n])) (hgrow : X1.grownBy w' v.qv.ownBlock) (hat : v.qv.ownBlock = some g ∨ w.heap.size ≤ g) :
    (PD (grow w o 2) (w'.setCell ⟨b, 39, none⟩ (.slice (some ⟨g, 0, none⟩) (p.queue.length + 1) cap)) b { p with queue := p.queue ++ [n] } { v with qv := .slice (some ⟨g, 0, none⟩) (p.queue.length + 1) cap } ∧ Fr (Mine o) w (w'.setCell ⟨b, 39, none⟩ (.slice (some ⟨g, 0, none⟩) (p.queue.length + 1) cap))) ∧ w'.cell? ⟨b, 39, none⟩ = some v.qv ∧ w'.frozen? ⟨b, 39, none⟩ = false := by
  have hr := h.queue nX
  have hf : Fr (fun k => o k = some 2) w w' := (Fr.of_below (S := fun k => o k = some 2) hb).grown hgrow (fun k hk _ => hr.2 k hk)
  have hnb : ¬ o b = some 2 := by rw [(h.blk nX).1]; simp
  refine ⟨h.setQueue (own_grow w o 2) hf ⟨?_, fun k hk => ?_⟩, (hf.cell h.lt hnb).trans h.cQueue, (hf.frozen h.lt hnb).trans (h.free _)⟩
  · rw [List.length_append, List.length_singleton, List.map_append]
    exact hown
  · injection hk with hk
    have hk : g = k := hk
    subst hk
    rcases hat with hat | hat
    · unfold grow
      by_cases hl : g < w.heap.size
      · rw [if_pos hl]; exact hr.2 g hat
      · rw [if_neg hl]
    · exact grow_new hat
set_option maxRecDepth 100000 in
set_option maxHeartbeats 400000 in
theorem retry_any (h : PD o w b p v) {i : Nat} (hi : i < p.workers.length) (ht : (p.wk i).ticket ≠ 0) (ht2 : (p.wk i).ticket ≤ p.tasks.length) (hfl : (p.task (p.wk i).ticket).failed ≤ 1000000000) (hkl : p.known.length ≤ 1000000000) (hwl : p.workers.length ≤ 1000) (hul : p.urgent.length ≤ 1000000000) (hql : p.queue.length ≤ 1000000000) :
    Calls Try.prog 83 #[ptrV b, .pointer (some ⟨v.wb, i * 74, none⟩)] w fun e w' => Done o w b v (p.retry i) e w' := by
  have H : Hid (PD o w b p v) := h
  obtain ⟨n, hn⟩ : ∃ n, n = (p.wk i).ticket := ⟨_, rfl⟩
  rw [← hn] at ht ht2 hfl
  obtain ⟨j, hj⟩ : ∃ j, n = j + 1 := ⟨n - 1, by omega⟩
  have HNJ : Hid (n = j + 1 ∧ n = (p.wk i).ticket) := ⟨hj, hn⟩
  have hjl : j < p.tasks.length := by omega
  obtain ⟨tk, htk⟩ : ∃ tk, tk = p.tasks.getD j task0 := ⟨_, rfl⟩
  have htn : p.task n = tk := by rw [htk, PM.task, hj]; rfl
  rw [htn] at hfl
  have HTK : Hid (tk = p.tasks.getD j task0 ∧ p.task n = tk) := ⟨htk, htn⟩
  have c0 : w.cell? ⟨v.wb, i * 74, none⟩ = some (.pointer (some ⟨v.ts.getD j 0, 0, none⟩)) := by rw [h.cWkT hi, ← hn, tkO, if_neg ht, tkV, hj]; rfl
  have c1 : w.cell? ⟨v.ts.getD j 0, 1, none⟩ = some (.int .i64 tk.state) := by rw [h.cTk hjl 1, htk]; rfl
  have c3 : w.cell? ⟨v.ts.getD j 0, 3, none⟩ = some (.int .i64 (tk.failed : Int)) := by rw [h.cTk hjl 3, htk]; rfl
  have f1 : ∀ k, w.frozen? ⟨v.ts.getD j 0, k, none⟩ = false := fun k => blk_free (h.task hjl)
  have hwr : IntKind.i64.wrap ((tk.failed : Int) + 1) = (tk.failed : Int) + 1 := by rw [IntKind.wrap_i64]; omega
  obtain ⟨t2, ht2e⟩ : ∃ t2, t2 = { tk with state := 1, failed := tk.failed + 1 } := ⟨_, rfl⟩
  obtain ⟨q, hq⟩ : ∃ q : PM, q = { p with tasks := p.tasks.set j t2 } := ⟨_, rfl⟩
  have HQ : Hid (p.retry i = (if q.isUrgent n then { q with urgent := q.urgent ++ [n] } else { q with queue := q.queue ++ [n] }).rest i ∧ q.known.length ≤ 1000000000 ∧ q.workers.length ≤ 1000 ∧ q.urgent.length ≤ 1000000000 ∧ q.queue.length ≤ 1000000000 ∧ j < q.tasks.length ∧ i < q.workers.length) := by
    refine ⟨?_, by subst hq; exact hkl, by subst hq; exact hwl, by subst hq; exact hul, by subst hq; exact hql, by subst hq; simpa using hjl, by subst hq; exact hi⟩
    have e : p.setTask n { p.task n with state := 1, failed := (p.task n).failed + 1 } = q := by rw [htn, hq, ht2e, PM.setTask, hj, Nat.add_sub_cancel]
    unfold PM.retry
    rw [← hn]
    simp only
    rw [e]
  have HN2 : Hid (∀ W : World, W = (w.setCell ⟨v.ts.getD j 0, 1, none⟩ (.int .i64 1)).setCell ⟨v.ts.getD j 0, 3, none⟩ (.int .i64 ((tk.failed : Int) + 1)) → Now o w b v o W q v) := fun W hW => by
    have a1 := h.setTk (i := j) hjl (c := 1) (x := .int .i64 1) (t' := { tk with state := 1 }) (by rw [← htk]; rfl) (by rw [← htk]) (by rw [← htk])
    have e1 : (p.tasks.set j { tk with state := 1 }).getD j task0 = { tk with state := 1 } := by simp [List.getD, hjl]
    have a2 := a1.1.setTk (i := j) (by simpa using hjl) (c := 3) (x := .int .i64 ((tk.failed : Int) + 1)) (t' := t2) (by simp only [e1]; rw [ht2e]; simp only [taskC, natV]; rw [show ((tk.failed + 1 : Nat) : Int) = (tk.failed : Int) + 1 by omega]; rfl) (by simp only [e1]; rw [ht2e]) (by simp only [e1]; rw [ht2e])
    have e2 : (p.tasks.set j { tk with state := 1 }).set j t2 = p.tasks.set j t2 := List.set_set ..
    simp only [e2] at a2
    rw [hW, hq]
    exact ((Now.start h).step a1 rfl rfl).step a2 rfl rfl
  have HTV : Hid (tkV v.ts n = .pointer (some ⟨v.ts.getD j 0, 0, none⟩)) := by show _ = _; rw [tkV, hj]; rfl
  obtain ⟨tb, htb⟩ : ∃ tb, tb = v.ts.getD j 0 := ⟨_, rfl⟩
  have HTB : Hid (tb = v.ts.getD j 0) := htb
  rw [← htb] at c0 c1 c3 f1 HN2 HTV
  unfold ptrV
  clear h hn hj htn htk htb hq ht2e hjl
  obtain ⟨i0, hii, hz0, hz1, hz2⟩ := info_parts Try.infoTk
  go_enter Try.func83, Try.ntmps83
  go_wp2_with fail
  refine name_calls (p := fun W => Now o w b v o W q v) (HN2.out _ rfl) ?_
  rintro W1 hW1
  have HW1 : Hid (Now o w b v o W1 q v) := hW1
  clear hW1 c0 c1 c3 f1 HN2
  have hiu := isUrgent_any HW1.out.pd HQ.out.2.2.2.2.2.1
  rw [← HTB.out, ← HNJ.out.1] at hiu
  unfold ptrV at hiu
  refine hiu.mono ?_
  rintro e W2 ⟨rfl, hb2⟩
  have HW2 : Hid (Now o w b v o W2 q v) := HW1.out.below hb2
  clear hb2 hiu HW1
  cases hu : q.isUrgent n
  · have HQ2 : Hid (p.retry i = ({ q with queue := q.queue ++ [n] } : PM).rest i) := by show _ = _; rw [HQ.out.1, hu]; rfl
    obtain ⟨ra, rc, hrv⟩ := owns_form (HW2.out.pd.queue nX).1
    have HRow : Hid (W2.ownsRow 0 96 1 (.slice ra q.queue.length rc) q.queue.length (q.queue.map (tkV v.ts)) ∧ v.qv = .slice ra q.queue.length rc ∧ q.queue.length ≤ 1000000000) := ⟨by rw [← hrv]; exact (HW2.out.pd.queue nX).1, hrv, HQ.out.2.2.2.2.1⟩
    have c4 := HW2.out.pd.cQueue
    rw [hrv] at c4
    obtain ⟨L, hL⟩ : ∃ L, L = q.queue.length := ⟨_, rfl⟩
    rw [← hL] at c4 HRow
    have hlb := HW2.out.pd.lt
    have hll : L ≤ 1000000000 := HRow.out.2.2
    have HLL : Hid (L = q.queue.length) := hL
    clear hrv hL
    go_wp2_with (at_builtin; refine wpList_append_lies _ (by rfl) _ _ 92 (by rfl) 0 96 i0 _ 1 8 Try.underlying92 hii hz0 hz1 hz2 (by rfl) (by decide) _ _ _ (by rfl) (HRow.out.1.alloc _) ⟨W2.heap.size, 0, none⟩ 1 1 [.pointer (some ⟨tb, 0, none⟩)] (by rfl) (by rfl) ?_ ?_ (by decide) ?_ ?_ ?_ _ (by rfl) ?_)
    · exact World.news_of_block (heap_alloc_new _ _)
    · intro u hu; simp at hu; subst hu; rfl
    · unfold maxLen; omega
    · omega
    · exact Nat.zero_le _
    · intro g cap w' hown hgrow hat _
      have hx := HW2.out.pd.pushQ (X1 := W2.alloc (.cells #[.pointer (some ⟨tb, 0, none⟩)] 96)) ((Below.refl _ _).alloc (Nat.le_refl _) _) (n := n) (g := g) (cap := cap) (w' := w') (by rw [HTV.out, ← HLL.out]; exact hown) (by rw [HRow.out.2.1]; exact hgrow) (by rw [HRow.out.2.1]; rcases hat with e | e; exact Or.inl e; exact Or.inr (by first | omega | (simp at e; omega)))
      rw [← HLL.out, HRow.out.2.1] at hx
      have k1 := hx.2.1
      have k2 := hx.2.2
      have HW3 : Hid (Now o w b v (grow W2 o 2) (w'.setCell ⟨b, 39, none⟩ (.slice (some ⟨g, 0, none⟩) (L + 1) cap)) { q with queue := q.queue ++ [n] } { v with qv := .slice (some ⟨g, 0, none⟩) (L + 1) cap }) := HW2.out.upd hx.1.1 (own_grow _ _ _) hx.1.2 rfl rfl
      clear hown hgrow hat hx c4
      go_wp2_with fail
      refine (rest_any (p := { q with queue := q.queue ++ [n] }) (i := i) HW3.out.pd HQ.out.2.2.2.2.2.2 HQ.out.2.1 HQ.out.2.2.1).mono ?_
      rintro e W4 ⟨rfl, hs⟩
      have HX : Hid (Stp o w b v.ts v.wb (p.retry i) W4) := by
        rw [HQ2.out]
        obtain ⟨o4, v4, h4⟩ := HW3.out.stp hs
        exact h4.done
      clear hs
      go_wp2
      go_end0
      exact ⟨rfl, HX.out⟩
  · have HQ2 : Hid (p.retry i = ({ q with urgent := q.urgent ++ [n] } : PM).rest i) := by show _ = _; rw [HQ.out.1, hu]; rfl
    obtain ⟨ra, rc, hrv⟩ := owns_form (HW2.out.pd.urg nX).1
    have HRow : Hid (W2.ownsRow 0 96 1 (.slice ra q.urgent.length rc) q.urgent.length (q.urgent.map (tkV v.ts)) ∧ v.uv = .slice ra q.urgent.length rc ∧ q.urgent.length ≤ 1000000000) := ⟨by rw [← hrv]; exact (HW2.out.pd.urg nX).1, hrv, HQ.out.2.2.2.1⟩
    have c4 := HW2.out.pd.cUrg
    rw [hrv] at c4
    obtain ⟨L, hL⟩ : ∃ L, L = q.urgent.length := ⟨_, rfl⟩
    rw [← hL] at c4 HRow
    have hlb := HW2.out.pd.lt
    have hll : L ≤ 1000000000 := HRow.out.2.2
    have HLL : Hid (L = q.urgent.length) := hL
    clear hrv hL
    go_wp2_with (at_builtin; refine wpList_append_lies _ (by rfl) _ _ 92 (by rfl) 0 96 i0 _ 1 8 Try.underlying92 hii hz0 hz1 hz2 (by rfl) (by decide) _ _ _ (by rfl) (HRow.out.1.alloc _) ⟨W2.heap.size, 0, none⟩ 1 1 [.pointer (some ⟨tb, 0, none⟩)] (by rfl) (by rfl) ?_ ?_ (by decide) ?_ ?_ ?_ _ (by rfl) ?_)
    · exact World.news_of_block (heap_alloc_new _ _)
    · intro u hu; simp at hu; subst hu; rfl
    · unfold maxLen; omega
    · omega
    · exact Nat.zero_le _
    · intro g cap w' hown hgrow hat _
      have hx := HW2.out.pd.pushU (X1 := W2.alloc (.cells #[.pointer (some ⟨tb, 0, none⟩)] 96)) ((Below.refl _ _).alloc (Nat.le_refl _) _) (n := n) (g := g) (cap := cap) (w' := w') (by rw [HTV.out, ← HLL.out]; exact hown) (by rw [HRow.out.2.1]; exact hgrow) (by rw [HRow.out.2.1]; rcases hat with e | e; exact Or.inl e; exact Or.inr (by first | omega | (simp at e; omega)))
      rw [← HLL.out, HRow.out.2.1] at hx
      have k1 := hx.2.1
      have k2 := hx.2.2
      have HW3 : Hid (Now o w b v (grow W2 o 3) (w'.setCell ⟨b, 40, none⟩ (.slice (some ⟨g, 0, none⟩) (L + 1) cap)) { q with urgent := q.urgent ++ [n] } { v with uv := .slice (some ⟨g, 0, none⟩) (L + 1) cap }) := HW2.out.upd hx.1.1 (own_grow _ _ _) hx.1.2 rfl rfl
      clear hown hgrow hat hx c4
      go_wp2_with fail
      refine (rest_any (p := { q with urgent := q.urgent ++ [n] }) (i := i) HW3.out.pd HQ.out.2.2.2.2.2.2 HQ.out.2.1 HQ.out.2.2.1).mono ?_
      rintro e W4 ⟨rfl, hs⟩
      have HX : Hid (Stp o w b v.ts v.wb (p.retry i) W4) := by
        rw [HQ2.out]
        obtain ⟨o4, v4, h4⟩ := HW3.out.stp hs
        exact h4.done
      clear hs
      go_wp2
      go_end0
      exact ⟨rfl, HX.out⟩
end
end Go.Proofs.Ytlbmcdoldnajoab
