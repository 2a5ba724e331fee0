import Derived.Test.YtlbmcdoldnajoaaGreatPFunE
set_option maxRecDepth 100000
set_option maxHeartbeats 400000
namespace Go.Proofs.YtlbmcdoldnajoaaGreat
open Go.RowKit
attribute [local go_sem ↓] wStM wStR wLdM wLdR wLdK wStK wLdA wStA wLdG wStG wLdW wStW
structure Now (o : Nat → Option Nat) (w : World) (b : Nat) (v : PV) (o1 : Nat → Option Nat) (W : World) (p1 : PM) (v1 : PV) : Prop where
  pd : PD o1 W b p1 v1
  own : Own w o o1
  fr : Fr (Mine o) w W
  ts : v1.ts = v.ts
  wb : v1.wb = v.wb
namespace Now
variable {o o1 o2 : Nat → Option Nat} {w W W' : World} {b : Nat} {v v1 v2 : PV} {p p1 p2 : PM}
theorem start (h : PD o w b p v) : Now o w b v o w p v := ⟨h, Own.refl _ _, Fr.refl _ _, rfl, rfl⟩
theorem upd (h : Now o w b v o1 W p1 v1) (h1 : PD o2 W' b p2 v2) (h2 : Own W o1 o2) (h3 : Fr (Mine o1) W W') (h4 : v2.ts = v1.ts) (h5 : v2.wb = v1.wb) : Now o w b v o2 W' p2 v2 :=
  ⟨h1, h.own.trans h2 h.fr.size, h.fr.mine h3 h.own, h4.trans h.ts, h5.trans h.wb⟩
theorem step (h : Now o w b v o1 W p1 v1) (h1 : PD o1 W' b p2 v2 ∧ Fr (Mine o1) W W') (h4 : v2.ts = v1.ts) (h5 : v2.wb = v1.wb) : Now o w b v o1 W' p2 v2 := h.upd h1.1 (Own.refl _ _) h1.2 h4 h5
theorem stp (h : Now o w b v o1 W p1 v1) (hs : Stp o1 W b v1.ts v1.wb p2 W') : ∃ o2 v2, Now o w b v o2 W' p2 v2 := by
  obtain ⟨o2, v2, g1, g2, g3, g4, g5⟩ := hs
  exact ⟨o2, v2, h.upd g1 g2 g3 g4 g5⟩
theorem below (h : Now o w b v o1 W p1 v1) (hb : Below W.heap.size W W') : Now o w b v o1 W' p1 v1 := ⟨h.pd.below hb, h.own, h.fr.trans (Fr.of_below (S := Mine o) hb) (fun _ _ h => h), h.ts, h.wb⟩
theorem done (h : Now o w b v o1 W p1 v1) : Stp o w b v.ts v.wb p1 W := ⟨o1, v1, h.pd, h.own, h.fr, h.ts, h.wb⟩
end Now
section
variable {o : Nat → Option Nat} {w : World} {b : Nat} {p : PM} {v : PV}
theorem PD.pushU (h : PD o w b p v) {X1 w' : World} (hb : Below w.heap.size w X1) {n g cap : Nat} (hown : w'.ownsRow 0 125 1 (.slice (some ⟨g, 0, none⟩) (p.urgent.length + 1) cap) (p.urgent.length + 1) (p.urgent.map (tkV v.ts) ++ [tkV v.ts n])) (hgrow : X1.grownBy w' v.uv.ownBlock) (hat : v.uv.ownBlock = some g ∨ w.heap.size ≤ g) :
    (PD (grow w o 3) (w'.setCell ⟨b, 40, none⟩ (.slice (some ⟨g, 0, none⟩) (p.urgent.length + 1) cap)) b { p with urgent := p.urgent ++ [n] } { v with uv := .slice (some ⟨g, 0, none⟩) (p.urgent.length + 1) cap } ∧ Fr (Mine o) w (w'.setCell ⟨b, 40, none⟩ (.slice (some ⟨g, 0, none⟩) (p.urgent.length + 1) cap))) ∧ w'.cell? ⟨b, 40, none⟩ = some v.uv ∧ w'.frozen? ⟨b, 40, none⟩ = false := by
  have hr := h.urg nX
  have hf : Fr (fun k => o k = some 3) w w' := (Fr.of_below (S := fun k => o k = some 3) hb).grown hgrow (fun k hk _ => hr.2 k hk)
  have hnb : ¬ o b = some 3 := by rw [(h.blk nX).1]; simp
  refine ⟨h.setUrg (own_grow w o 3) hf ⟨?_, fun k hk => ?_⟩, (hf.cell h.lt hnb).trans h.cUrg, (hf.frozen h.lt hnb).trans (h.free _)⟩
  · rw [List.length_append, List.length_singleton, List.map_append]
    exact hown
  · injection hk with hk
    have hk : g = k := hk
    subst hk
    rcases hat with hat | hat
    · unfold grow
      by_cases hl : g < w.heap.size
      · rw [if_pos hl]; exact hr.2 g hat
      · rw [if_neg hl]
    · exact grow_new hat
theorem PD.pushQ (h : PD o w b p v) {X1 w' : World} (hb : Below w.heap.size w X1) {n g cap : Nat} (hown : w'.ownsRow 0 125 1 (.slice (some ⟨g, 0, none⟩) (p.queue.length + 1) cap) (p.queue.length + 1) (p.queue.map (tkV v.ts) ++ [tkV v.ts n])) (hgrow : X1.grownBy w' v.qv.ownBlock) (hat : v.qv.ownBlock = some g ∨ w.heap.size ≤ g) :
    (PD (grow w o 2) (w'.setCell ⟨b, 39, none⟩ (.slice (some ⟨g, 0, none⟩) (p.queue.length + 1) cap)) b { p with queue := p.queue ++ [n] } { v with qv := .slice (some ⟨g, 0, none⟩) (p.queue.length + 1) cap } ∧ Fr (Mine o) w (w'.setCell ⟨b, 39, none⟩ (.slice (some ⟨g, 0, none⟩) (p.queue.length + 1) cap))) ∧ w'.cell? ⟨b, 39, none⟩ = some v.qv ∧ w'.frozen? ⟨b, 39, none⟩ = false := by
  have hr := h.queue nX
  have hf : Fr (fun k => o k = some 2) w w' := (Fr.of_below (S := fun k => o k = some 2) hb).grown hgrow (fun k hk _ => hr.2 k hk)
  have hnb : ¬ o b = some 2 := by rw [(h.blk nX).1]; simp
  refine ⟨h.setQueue (own_grow w o 2) hf ⟨?_, fun k hk => ?_⟩, (hf.cell h.lt hnb).trans h.cQueue, (hf.frozen h.lt hnb).trans (h.free _)⟩
  · rw [List.length_append, List.length_singleton, List.map_append]
    exact hown
  · injection hk with hk
    have hk : g = k := hk
    subst hk
    rcases hat with hat | hat
    · unfold grow
      by_cases hl : g < w.heap.size
      · rw [if_pos hl]; exact hr.2 g hat
      · rw [if_neg hl]
    · exact grow_new hat
theorem retry_any (h : PD o w b p v) {i : Nat} (hi : i < p.workers.length) (ht : (p.wk i).ticket ≠ 0) (ht2 : (p.wk i).ticket ≤ p.tasks.length) (hfl : (p.task (p.wk i).ticket).failed ≤ 1000000000) (hkl : p.known.length ≤ 1000000000) (hwl : p.workers.length ≤ 1000) (hul : p.urgent.length ≤ 1000000000) (hql : p.queue.length ≤ 1000000000) :
    Calls Tryz.prog 103 #[ptrV b, .pointer (some ⟨v.wb, i * 74, none⟩)] w fun e w' => Done o w b v (p.retry i) e w' := by
  have H : Hid (PD o w b p v) := h
  obtain ⟨n, hn⟩ : ∃ n, n = (p.wk i).ticket := ⟨_, rfl⟩
  rw [← hn] at ht ht2 hfl
  obtain ⟨j, hj⟩ : ∃ j, n = j + 1 := ⟨n - 1, by omega⟩
  have HNJ : Hid (n = j + 1 ∧ n = (p.wk i).ticket) := ⟨hj, hn⟩
  have hjl : j < p.tasks.length := by omega
  obtain ⟨tk, htk⟩ : ∃ tk, tk = p.tasks.getD j task0 := ⟨_, rfl⟩
  have htn : p.task n = tk := by rw [htk, PM.task, hj]; rfl
  rw [htn] at hfl
  have HTK : Hid (tk = p.tasks.getD j task0 ∧ p.task n = tk) := ⟨htk, htn⟩
  have c0 : w.cell? ⟨v.wb, i * 74, none⟩ = some (.pointer (some ⟨v.ts.getD j 0, 0, none⟩)) := by rw [h.cWkT hi, ← hn, tkO, if_neg ht, tkV, hj]; rfl
  have c1 : w.cell? ⟨v.ts.getD j 0, 1, none⟩ = some (.int .i64 tk.state) := by rw [h.cTk hjl 1, htk]; rfl
  have c3 : w.cell? ⟨v.ts.getD j 0, 3, none⟩ = some (.int .i64 (tk.failed : Int)) := by rw [h.cTk hjl 3, htk]; rfl
  have f1 : ∀ k, w.frozen? ⟨v.ts.getD j 0, k, none⟩ = false := fun k => blk_free (h.task hjl)
  have hwr : IntKind.i64.wrap ((tk.failed : Int) + 1) = (tk.failed : Int) + 1 := by rw [IntKind.wrap_i64]; omega
  obtain ⟨t2, ht2e⟩ : ∃ t2, t2 = { tk with state := 1, failed := tk.failed + 1 } := ⟨_, rfl⟩
  obtain ⟨q, hq⟩ : ∃ q : PM, q = { p with tasks := p.tasks.set j t2 } := ⟨_, rfl⟩
  have HQ : Hid (p.retry i = (if q.isUrgent n then { q with urgent := q.urgent ++ [n] } else { q with queue := q.queue ++ [n] }).rest i ∧ q.known.length ≤ 1000000000 ∧ q.workers.length ≤ 1000 ∧ q.urgent.length ≤ 1000000000 ∧ q.queue.length ≤ 1000000000 ∧ j < q.tasks.length ∧ i < q.workers.length) := by
    refine ⟨?_, by subst hq; exact hkl, by subst hq; exact hwl, by subst hq; exact hul, by subst hq; exact hql, by subst hq; simpa using hjl, by subst hq; exact hi⟩
    have e : p.setTask n { p.task n with state := 1, failed := (p.task n).failed + 1 } = q := by rw [htn, hq, ht2e, PM.setTask, hj, Nat.add_sub_cancel]
    unfold PM.retry
    rw [← hn]
    simp only
    rw [e]
  have HN2 : Hid (∀ W : World, W = (w.setCell ⟨v.ts.getD j 0, 1, none⟩ (.int .i64 1)).setCell ⟨v.ts.getD j 0, 3, none⟩ (.int .i64 ((tk.failed : Int) + 1)) → Now o w b v o W q v) := fun W hW => by
    have a1 := h.setTk (i := j) hjl (c := 1) (x := .int .i64 1) (t' := { tk with state := 1 }) (by rw [← htk]; rfl) (by rw [← htk]) (by rw [← htk])
    have e1 : (p.tasks.set j { tk with state := 1 }).getD j task0 = { tk with state := 1 } := by simp [List.getD, hjl]
    have a2 := a1.1.setTk (i := j) (by simpa using hjl) (c := 3) (x := .int .i64 ((tk.failed : Int) + 1)) (t' := t2) (by simp only [e1]; rw [ht2e]; simp only [taskC, natV]; rw [show ((tk.failed + 1 : Nat) : Int) = (tk.failed : Int) + 1 by omega]; rfl) (by simp only [e1]; rw [ht2e]) (by simp only [e1]; rw [ht2e])
    have e2 : (p.tasks.set j { tk with state := 1 }).set j t2 = p.tasks.set j t2 := List.set_set ..
    simp only [e2] at a2
    rw [hW, hq]
    exact ((Now.start h).step a1 rfl rfl).step a2 rfl rfl
  have HTV : Hid (tkV v.ts n = .pointer (some ⟨v.ts.getD j 0, 0, none⟩)) := by show _ = _; rw [tkV, hj]; rfl
  obtain ⟨tb, htb⟩ : ∃ tb, tb = v.ts.getD j 0 := ⟨_, rfl⟩
  have HTB : Hid (tb = v.ts.getD j 0) := htb
  rw [← htb] at c0 c1 c3 f1 HN2 HTV
  unfold ptrV
  clear h hn hj htn htk htb hq ht2e hjl
  obtain ⟨i0, hii, hz0, hz1, hz2⟩ := info_parts Tryz.infoTk
  go_enter Tryz.func103, Tryz.ntmps103
  go_wp2_with fail
  refine name_calls (p := fun W => Now o w b v o W q v) (HN2.out _ rfl) ?_
  rintro W1 hW1
  have HW1 : Hid (Now o w b v o W1 q v) := hW1
  clear hW1 c0 c1 c3 f1 HN2
  have hiu := isUrgent_any HW1.out.pd HQ.out.2.2.2.2.2.1
  rw [← HTB.out, ← HNJ.out.1] at hiu
  unfold ptrV at hiu
  refine hiu.mono ?_
  rintro e W2 ⟨rfl, hb2⟩
  have HW2 : Hid (Now o w b v o W2 q v) := HW1.out.below hb2
  clear hb2 hiu HW1
  cases hu : q.isUrgent n
  · have HQ2 : Hid (p.retry i = ({ q with queue := q.queue ++ [n] } : PM).rest i) := by show _ = _; rw [HQ.out.1, hu]; rfl
    obtain ⟨ra, rc, hrv⟩ := owns_form (HW2.out.pd.queue nX).1
    have HRow : Hid (W2.ownsRow 0 125 1 (.slice ra q.queue.length rc) q.queue.length (q.queue.map (tkV v.ts)) ∧ v.qv = .slice ra q.queue.length rc ∧ q.queue.length ≤ 1000000000) := ⟨by rw [← hrv]; exact (HW2.out.pd.queue nX).1, hrv, HQ.out.2.2.2.2.1⟩
    have c4 := HW2.out.pd.cQueue
    rw [hrv] at c4
    obtain ⟨L, hL⟩ : ∃ L, L = q.queue.length := ⟨_, rfl⟩
    rw [← hL] at c4 HRow
    have hlb := HW2.out.pd.lt
    have hll : L ≤ 1000000000 := HRow.out.2.2
    have HLL : Hid (L = q.queue.length) := hL
    clear hrv hL
    go_wp2_with (at_builtin; refine wpList_append_lies _ (by rfl) _ _ 75 (by rfl) 0 125 i0 _ 1 8 Tryz.underlying75 hii hz0 hz1 hz2 (by rfl) (by decide) _ _ _ (by rfl) (HRow.out.1.alloc _) ⟨W2.heap.size, 0, none⟩ 1 1 [.pointer (some ⟨tb, 0, none⟩)] (by rfl) (by rfl) ?_ ?_ (by decide) ?_ ?_ ?_ _ (by rfl) ?_)
    · exact World.news_of_block (heap_alloc_new _ _)
    · intro u hu; simp at hu; subst hu; rfl
    · unfold maxLen; omega
    · omega
    · exact Nat.zero_le _
    · intro g cap w' hown hgrow hat _
      have hx := HW2.out.pd.pushQ (X1 := W2.alloc (.cells #[.pointer (some ⟨tb, 0, none⟩)] 125)) ((Below.refl _ _).alloc (Nat.le_refl _) _) (n := n) (g := g) (cap := cap) (w' := w') (by rw [HTV.out, ← HLL.out]; exact hown) (by rw [HRow.out.2.1]; exact hgrow) (by rw [HRow.out.2.1]; rcases hat with e | e; exact Or.inl e; exact Or.inr (by first | omega | (simp at e; omega)))
      rw [← HLL.out, HRow.out.2.1] at hx
      have k1 := hx.2.1
      have k2 := hx.2.2
      have HW3 : Hid (Now o w b v (grow W2 o 2) (w'.setCell ⟨b, 39, none⟩ (.slice (some ⟨g, 0, none⟩) (L + 1) cap)) { q with queue := q.queue ++ [n] } { v with qv := .slice (some ⟨g, 0, none⟩) (L + 1) cap }) := HW2.out.upd hx.1.1 (own_grow _ _ _) hx.1.2 rfl rfl
      clear hown hgrow hat hx c4
      go_wp2_with fail
      refine (rest_any (p := { q with queue := q.queue ++ [n] }) (i := i) HW3.out.pd HQ.out.2.2.2.2.2.2 HQ.out.2.1 HQ.out.2.2.1).mono ?_
      rintro e W4 ⟨rfl, hs⟩
      have HX : Hid (Stp o w b v.ts v.wb (p.retry i) W4) := by
        rw [HQ2.out]
        obtain ⟨o4, v4, h4⟩ := HW3.out.stp hs
        exact h4.done
      clear hs
      go_wp2
      go_end0
      exact ⟨rfl, HX.out⟩
  · have HQ2 : Hid (p.retry i = ({ q with urgent := q.urgent ++ [n] } : PM).rest i) := by show _ = _; rw [HQ.out.1, hu]; rfl
    obtain ⟨ra, rc, hrv⟩ := owns_form (HW2.out.pd.urg nX).1
    have HRow : Hid (W2.ownsRow 0 125 1 (.slice ra q.urgent.length rc) q.urgent.length (q.urgent.map (tkV v.ts)) ∧ v.uv = .slice ra q.urgent.length rc ∧ q.urgent.length ≤ 1000000000) := ⟨by rw [← hrv]; exact (HW2.out.pd.urg nX).1, hrv, HQ.out.2.2.2.1⟩
    have c4 := HW2.out.pd.cUrg
    rw [hrv] at c4
    obtain ⟨L, hL⟩ : ∃ L, L = q.urgent.length := ⟨_, rfl⟩
    rw [← hL] at c4 HRow
    have hlb := HW2.out.pd.lt
    have hll : L ≤ 1000000000 := HRow.out.2.2
    have HLL : Hid (L = q.urgent.length) := hL
    clear hrv hL
    go_wp2_with (at_builtin; refine wpList_append_lies _ (by rfl) _ _ 75 (by rfl) 0 125 i0 _ 1 8 Tryz.underlying75 hii hz0 hz1 hz2 (by rfl) (by decide) _ _ _ (by rfl) (HRow.out.1.alloc _) ⟨W2.heap.size, 0, none⟩ 1 1 [.pointer (some ⟨tb, 0, none⟩)] (by rfl) (by rfl) ?_ ?_ (by decide) ?_ ?_ ?_ _ (by rfl) ?_)
    · exact World.news_of_block (heap_alloc_new _ _)
    · intro u hu; simp at hu; subst hu; rfl
    · unfold maxLen; omega
    · omega
    · exact Nat.zero_le _
    · intro g cap w' hown hgrow hat _
      have hx := HW2.out.pd.pushU (X1 := W2.alloc (.cells #[.pointer (some ⟨tb, 0, none⟩)] 125)) ((Below.refl _ _).alloc (Nat.le_refl _) _) (n := n) (g := g) (cap := cap) (w' := w') (by rw [HTV.out, ← HLL.out]; exact hown) (by rw [HRow.out.2.1]; exact hgrow) (by rw [HRow.out.2.1]; rcases hat with e | e; exact Or.inl e; exact Or.inr (by first | omega | (simp at e; omega)))
      rw [← HLL.out, HRow.out.2.1] at hx
      have k1 := hx.2.1
      have k2 := hx.2.2
      have HW3 : Hid (Now o w b v (grow W2 o 3) (w'.setCell ⟨b, 40, none⟩ (.slice (some ⟨g, 0, none⟩) (L + 1) cap)) { q with urgent := q.urgent ++ [n] } { v with uv := .slice (some ⟨g, 0, none⟩) (L + 1) cap }) := HW2.out.upd hx.1.1 (own_grow _ _ _) hx.1.2 rfl rfl
      clear hown hgrow hat hx c4
      go_wp2_with fail
      refine (rest_any (p := { q with urgent := q.urgent ++ [n] }) (i := i) HW3.out.pd HQ.out.2.2.2.2.2.2 HQ.out.2.1 HQ.out.2.2.1).mono ?_
      rintro e W4 ⟨rfl, hs⟩
      have HX : Hid (Stp o w b v.ts v.wb (p.retry i) W4) := by
        rw [HQ2.out]
        obtain ⟨o4, v4, h4⟩ := HW3.out.stp hs
        exact h4.done
      clear hs
      go_wp2
      go_end0
      exact ⟨rfl, HX.out⟩
end
end Go.Proofs.YtlbmcdoldnajoaaGreat
namespace Go.Proofs.YtlbmcdoldnajoaaGreat
open Go.RowKit
attribute [local go_sem ↓] wStM wStR wLdM wLdR wLdK wStK wLdA wStA wLdG wStG wLdW wStW
section
variable {o : Nat → Option Nat} {w : World} {b : Nat} {p : PM} {v : PV}
def LeftU (o : Nat → Option Nat) (w : World) (b : Nat) (v : PV) (p1 : PM) (v1 : PV) (n : Nat) (e : Ending) (w' : World) : Prop := ∃ ra m rc, e = .returned (.slice ra m rc) ∧ w'.cell? ⟨b, 40, none⟩ = some v1.uv ∧ w'.frozen? ⟨b, 40, none⟩ = false ∧ ∃ o2 v2, Now o w b v o2 (w'.setCell ⟨b, 40, none⟩ (.slice ra m rc)) { p1 with urgent := DeskM.left p1.urgent n } v2
theorem withoutU {o1 : Nat → Option Nat} {X : World} {p1 : PM} {v1 : PV} (h : Now o w b v o1 X p1 v1) (hin : ∀ n ∈ p1.urgent, 1 ≤ n ∧ n ≤ p1.tasks.length) (hl : p1.urgent.length ≤ 1000000000) (n : Nat) :
    Calls Tryz.prog 63 #[v1.uv, .int .i64 (n : Int)] X fun e w' => LeftU o w b v p1 v1 n e w' := by
  refine (withoutT_any h.pd (h.pd.urg nX).1 hin hl n).mono ?_
  rintro e w' ⟨x, rfl, hown, hb⟩
  obtain ⟨ra, rc, hx⟩ := owns_form hown
  subst hx
  have hs := h.pd.setUrg (own_grow X o1 3) (w1 := w') (Fr.of_below hb) (x := .slice ra (DeskM.left p1.urgent n).length rc) (l := DeskM.left p1.urgent n) ⟨owns_base hown (Nat.zero_le _), fun k hk => grow_new (owns_ge hown hk)⟩
  exact ⟨ra, _, rc, rfl, (hb.cell (p := ⟨b, 40, none⟩) h.pd.lt).trans h.pd.cUrg, by rw [World.frozen?_of_block (w := X) (hb.block _ h.pd.lt)]; exact h.pd.free _, _, _, h.upd hs.1 (own_grow _ _ _) hs.2 rfl rfl⟩
def LeftQ (o : Nat → Option Nat) (w : World) (b : Nat) (v : PV) (p1 : PM) (v1 : PV) (n : Nat) (e : Ending) (w' : World) : Prop := ∃ ra m rc, e = .returned (.slice ra m rc) ∧ w'.cell? ⟨b, 39, none⟩ = some v1.qv ∧ w'.frozen? ⟨b, 39, none⟩ = false ∧ ∃ o2 v2, Now o w b v o2 (w'.setCell ⟨b, 39, none⟩ (.slice ra m rc)) { p1 with queue := DeskM.left p1.queue n } v2
theorem withoutQ {o1 : Nat → Option Nat} {X : World} {p1 : PM} {v1 : PV} (h : Now o w b v o1 X p1 v1) (hin : ∀ n ∈ p1.queue, 1 ≤ n ∧ n ≤ p1.tasks.length) (hl : p1.queue.length ≤ 1000000000) (n : Nat) :
    Calls Tryz.prog 63 #[v1.qv, .int .i64 (n : Int)] X fun e w' => LeftQ o w b v p1 v1 n e w' := by
  refine (withoutT_any h.pd (h.pd.queue nX).1 hin hl n).mono ?_
  rintro e w' ⟨x, rfl, hown, hb⟩
  obtain ⟨ra, rc, hx⟩ := owns_form hown
  subst hx
  have hs := h.pd.setQueue (own_grow X o1 2) (w1 := w') (Fr.of_below hb) (x := .slice ra (DeskM.left p1.queue n).length rc) (l := DeskM.left p1.queue n) ⟨owns_base hown (Nat.zero_le _), fun k hk => grow_new (owns_ge hown hk)⟩
  exact ⟨ra, _, rc, rfl, (hb.cell (p := ⟨b, 39, none⟩) h.pd.lt).trans h.pd.cQueue, by rw [World.frozen?_of_block (w := X) (hb.block _ h.pd.lt)]; exact h.pd.free _, _, _, h.upd hs.1 (own_grow _ _ _) hs.2 rfl rfl⟩
theorem PD.bw (h : PD o w b p v) : b ≠ v.wb := blk_ne h.dblk (h.work nX).2 (by decide)
theorem accept_any (h : PD o w b p v) {i : Nat} (hi : i < p.workers.length) (ht : (p.wk i).ticket ≠ 0) (ht2 : (p.wk i).ticket ≤ p.tasks.length) (htl : (p.wk i).x.told.length ≤ 1000) (hkl : p.known.length ≤ 1000000000) (hwl : p.workers.length ≤ 1000) (hul : p.urgent.length ≤ 1000000000) (hui : ∀ n ∈ p.urgent, 1 ≤ n ∧ n ≤ p.tasks.length) :
    Calls Tryz.prog 105 #[ptrV b, .pointer (some ⟨v.wb, i * 74, none⟩)] w fun e w' => Done o w b v (p.accept i) e w' := by
  have H : Hid (PD o w b p v) := h
  obtain ⟨n, hn⟩ : ∃ n, n = (p.wk i).ticket := ⟨_, rfl⟩
  rw [← hn] at ht ht2
  obtain ⟨j, hj⟩ : ∃ j, n = j + 1 := ⟨n - 1, by omega⟩
  have hjl : j < p.tasks.length := by omega
  have HNJ : Hid (n = j + 1 ∧ n = (p.wk i).ticket ∧ j < p.tasks.length) := ⟨hj, hn, hjl⟩
  have HB : Hid ((p.wk i).x.told.length ≤ 1000 ∧ p.known.length ≤ 1000000000 ∧ p.workers.length ≤ 1000 ∧ p.urgent.length ≤ 1000000000 ∧ (∀ n ∈ p.urgent, 1 ≤ n ∧ n ≤ p.tasks.length)) := ⟨htl, hkl, hwl, hul, hui⟩
  have c0 : w.cell? ⟨v.wb, i * 74, none⟩ = some (.pointer (some ⟨v.ts.getD j 0, 0, none⟩)) := by rw [h.cWkT hi, ← hn, tkO, if_neg ht, tkV, hj]; rfl
  have htb0 : w.heap[v.ts.getD j 0]? = some (.cells (taskC j (p.tasks.getD j task0) (v.sv.getD j nilV) (v.tv.getD j nilV)) 128 (0, 0)) := h.task hjl
  obtain ⟨tb, htb⟩ : ∃ tb, tb = v.ts.getD j 0 := ⟨_, rfl⟩
  have HTB : Hid (tb = v.ts.getD j 0) := htb
  rw [← htb] at c0 htb0
  unfold ptrV
  have HTB0 : Hid (w.heap[tb]? = some (.cells (taskC j (p.tasks.getD j task0) (v.sv.getD j nilV) (v.tv.getD j nilV)) 128 (0, 0))) := htb0
  clear h hn hj htb hjl htb0 htl hkl hwl hul hui
  go_enter Tryz.func105, Tryz.ntmps105
  go_wp2_with fail
  refine (state_any _ _ (wkSpot p v i) _ _ _ _ (H.out.eng hi (S := fun _ => True) trivial (fun _ _ => trivial))).mono ?_
  rintro e W1 ⟨rfl, hW⟩
  obtain rfl := hW.symm
  clear hW
  go_wp2_with fail
  refine (end_task tb _ (p.wk i).st HTB0.out rfl).mono ?_
  rintro e W2 ⟨rfl, hW2⟩
  obtain ⟨p2, hp2⟩ : ∃ p2 : PM, p2 = { p with tasks := p.tasks.set j { p.tasks.getD j task0 with state := (p.wk i).st, steps := [] } } := ⟨_, rfl⟩
  obtain ⟨v2, hv2⟩ : ∃ v2 : PV, v2 = { v with sv := v.sv.set j nilV } := ⟨_, rfl⟩
  obtain ⟨p3, hp3⟩ : ∃ p3 : PM, p3 = { p with tasks := p.tasks.set j { p.tasks.getD j task0 with state := (p.wk i).st, steps := [], told := (p.wk i).x.told } } := ⟨_, rfl⟩
  have HP2 : Hid (p2.wk i = p.wk i ∧ i < p2.workers.length ∧ j < p2.tasks.length ∧ { p2 with tasks := p2.tasks.set j { p2.tasks.getD j task0 with told := (p.wk i).x.told } } = p3) := by
    have hjl := HNJ.out.2.2
    subst hp2 hp3
    exact ⟨rfl, hi, by simpa using hjl, by simp [List.getD, hjl]⟩
  have HP3 : Hid (p3.wk i = p.wk i ∧ i < p3.workers.length ∧ p3.urgent = p.urgent ∧ p3.tasks.length = p.tasks.length ∧ p3.known = p.known ∧ p3.workers = p.workers ∧ j < p3.tasks.length ∧ p.accept i = ({ p3 with vals := if (p.wk i).st = 3 then see p3.vals (p.wk i).x.puts else p3.vals, urgent := DeskM.left p3.urgent n } : PM).rest i) := by
    have hjl := HNJ.out.2.2
    refine ⟨by subst hp3; rfl, by subst hp3; exact hi, by subst hp3; rfl, by subst hp3; simp, by subst hp3; rfl, by subst hp3; rfl, by subst hp3; simpa using hjl, ?_⟩
    have e : p.setTask n { p.task n with state := (p.wk i).st, steps := [], told := (p.wk i).x.told } = p3 := by rw [hp3, PM.setTask, PM.task, HNJ.out.1, Nat.add_sub_cancel]
    unfold PM.accept
    simp only
    rw [← HNJ.out.2.1, e]
  have HW2 : Hid (Now o w b v o W2 p2 v2) := by
    have hjl := HNJ.out.2.2
    have a1 := H.out.setTk (i := j) hjl (c := 1) (x := .int .i64 (p.wk i).st) (t' := { p.tasks.getD j task0 with state := (p.wk i).st }) rfl rfl rfl
    have e1 : (p.tasks.set j { p.tasks.getD j task0 with state := (p.wk i).st }).getD j task0 = { p.tasks.getD j task0 with state := (p.wk i).st } := by simp [List.getD, hjl]
    have a2 := a1.1.noSteps (i := j) (by simpa using hjl)
    simp only [e1, List.set_set] at a2
    rw [← HTB.out] at a1 a2
    rw [hW2, hp2, hv2]
    exact ((Now.start H.out).step a1 rfl rfl).step a2 rfl rfl
  have HV2 : Hid (v2.ts = v.ts ∧ v2.wb = v.wb) := by subst hv2; exact ⟨rfl, rfl⟩
  clear hW2 hp2 hv2 hp3
  have c1 : W2.cell? ⟨v.wb, i * 74, none⟩ = some (.pointer (some ⟨tb, 0, none⟩)) := by
    have := HW2.out.pd.cWkT HP2.out.2.1
    rw [HP2.out.1, ← HNJ.out.2.1, tkO, if_neg ht, tkV, HNJ.out.1, HV2.out.1, HV2.out.2] at this
    rw [HTB.out]
    exact this
  clear c0
  have hE2 := HW2.out.pd.eng HP2.out.2.1 (S := fun _ => True) trivial (fun _ _ => trivial)
  rw [HP2.out.1] at hE2
  have HE2 : Hid (Eng (fun _ => True) W2 (wkSpot p2 v2 i) (v2.rt.getD i nilV) (p.wk i).st (p.wk i).x (see (p.wk i).m (p.wk i).x.puts) ∧ (wkSpot p2 v2 i).b = v.wb ∧ (wkSpot p2 v2 i).o = i * 74 + 2) := ⟨hE2, HV2.out.2, rfl⟩
  clear hE2
  go_wp2_with fail
  have hT := told_any _ W2 (wkSpot p2 v2 i) _ _ _ _ HE2.out.1 HB.out.1
  rw [HE2.out.2.1, HE2.out.2.2] at hT
  refine hT.mono ?_
  clear hT
  rintro e W3 ⟨tv, rfl, hown3, hb3⟩
  obtain ⟨ta, tc, htv⟩ := owns_form hown3
  subst htv
  have hX3 := HW2.out.pd.setTold (own_grow W2 o (8 + 4 * j)) HP2.out.2.2.1 (Fr.of_below (S := fun _ => False) hb3) (x := .slice ta (p.wk i).x.told.length tc) (l := (p.wk i).x.told) ⟨owns_base hown3 (Nat.zero_le _), fun k hk => grow_new (owns_ge hown3 hk)⟩
  obtain ⟨v3, hv3⟩ : ∃ v3 : PV, v3 = { v2 with tv := v2.tv.set j (.slice ta (p.wk i).x.told.length tc) } := ⟨_, rfl⟩
  rw [HP2.out.2.2.2, ← hv3, HV2.out.1, ← HTB.out] at hX3
  have HV3 : Hid (v3.ts = v.ts ∧ v3.wb = v.wb) := by subst hv3; exact HV2.out
  have HX3 : Hid (Now o w b v (grow W2 o (8 + 4 * j)) (W3.setCell ⟨tb, 5, none⟩ (.slice ta (p.wk i).x.told.length tc)) p3 v3) := HW2.out.upd hX3.1 (own_grow _ _ _) hX3.2 (by rw [HV3.out.1, HV2.out.1]) (by rw [HV3.out.2, HV2.out.2])
  have htk2 : W2.heap[tb]? = some (.cells (taskC j (p2.tasks.getD j task0) (v2.sv.getD j nilV) (v2.tv.getD j nilV)) 128 (0, 0)) := by
    have := HW2.out.pd.task HP2.out.2.2.1
    rw [HV2.out.1, ← HTB.out] at this
    exact this
  have hlt2 := blk_lt htk2
  have c5 : W3.cell? ⟨tb, 5, none⟩ = some (v2.tv.getD j nilV) := (hb3.cell (p := ⟨tb, 5, none⟩) hlt2).trans (by rw [blk_cell htk2]; rfl)
  have f5 : W3.frozen? ⟨tb, 5, none⟩ = false := by rw [World.frozen?_of_block (w := W2) (hb3.block _ hlt2)]; exact blk_free htk2
  clear hX3 hv3 htk2 hown3 hlt2 c1
  have hb3' : Hid (Below W2.heap.size W2 W3) := hb3
  clear hb3
  go_wp2_with fail
  refine name_wp (p := fun X => Now o w b v (grow W2 o (8 + 4 * j)) X p3 v3) HX3.out ?_
  rintro X3 hX3
  have HN3 : Hid (Now o w b v (grow W2 o (8 + 4 * j)) X3 p3 v3) := hX3
  clear hX3 HX3 c5 f5 hb3' HE2 HW2
  generalize grow W2 o (8 + 4 * j) = o3 at HN3
  obtain ⟨p4, hp4⟩ : ∃ p4 : PM, p4 = { p3 with vals := if (p.wk i).st = 3 then see p3.vals (p.wk i).x.puts else p3.vals } := ⟨_, rfl⟩
  have HP4 : Hid (p4.urgent = p.urgent ∧ p4.tasks.length = p.tasks.length ∧ p4.known = p.known ∧ p4.workers = p.workers ∧ p.accept i = ({ p4 with urgent := DeskM.left p4.urgent n } : PM).rest i) := by
    subst hp4
    exact ⟨HP3.out.2.2.1, HP3.out.2.2.2.1, HP3.out.2.2.2.2.1, HP3.out.2.2.2.2.2.1, HP3.out.2.2.2.2.2.2.2⟩
  have HA : Hid (∀ k, Calls Tryz.prog 49 #[.pointer (some ⟨v.wb, i * 74 + 2, none⟩), .pointer (some ⟨b, 4, none⟩)] (X3.drewN k) fun e w' => e = .returned (.tuple #[]) ∧ Now o w b v o3 w' p4 v3) := fun k => by
    have hk := HN3.out.below (below_drewN (Below.refl _ X3) k)
    have hE3 := hk.pd.eng HP3.out.2.1 (S := fun _ => True) trivial (fun _ _ => trivial)
    rw [HP3.out.1] at hE3
    have hA := apply_any _ _ (wkSpot p3 v3 i) (mapSpot b p3 v3) _ _ _ _ _ hE3 hk.pd.mapIn hk.pd.bw
    rw [show (wkSpot p3 v3 i).b = v.wb from HV3.out.2, show (wkSpot p3 v3 i).o = i * 74 + 2 from rfl, show (mapSpot b p3 v3).b = b from rfl, show (mapSpot b p3 v3).o = 4 from rfl] at hA
    refine hA.mono ?_
    rintro e X4 ⟨rfl, hM4, hF4⟩
    rw [hp4]
    exact ⟨rfl, hk.step (hk.pd.putMap hM4 hF4) rfl rfl⟩
  clear hp4
  go_region_with (go_at_call 49; refine (HA.out _).mono ?_; rintro e X4 ⟨rfl, hN4⟩; have HN4 : Hid (Now o w b v o3 X4 p4 v3) := hN4; clear hN4)
  clear HA HN3
  obtain ⟨ua, uc, huv⟩ := owns_form (HN4.out.pd.urg nX).1
  have c40 := HN4.out.pd.cUrg
  rw [huv] at c40
  have HUV : Hid (v3.uv = .slice ua p4.urgent.length uc) := huv
  have ct : X4.cell? ⟨tb, 0, none⟩ = some (.int .i64 (n : Int)) := by
    have := HN4.out.pd.cTk (i := j) (by rw [HP4.out.2.1]; exact HNJ.out.2.2) 0
    rw [HV3.out.1, ← HTB.out] at this
    rw [this, HNJ.out.1]
    rfl
  clear huv
  generalize p4.urgent.length = L at c40 HUV
  have HWo : Hid (∀ k, Calls Tryz.prog 63 #[.slice ua L uc, .int .i64 (n : Int)] (X4.drewN k) fun e w' => LeftU o w b v p4 v3 n e w') := fun k => by
    rw [← HUV.out]
    exact withoutU (HN4.out.below (below_drewN (Below.refl _ X4) k)) (by rw [HP4.out.1, HP4.out.2.1]; exact HB.out.2.2.2.2) (by rw [HP4.out.1]; exact HB.out.2.2.2.1) n
  go_wp2_with fail
  go_region_with (go_at_call 63; refine (HWo.out _).mono ?_; rintro e X5 ⟨ra, m, rc, rfl, k1, k2, k3⟩; rw [HUV.out] at k1; have HN5 : Hid (∃ o2 v2, Now o w b v o2 (X5.setCell ⟨b, 40, none⟩ (.slice ra m rc)) { p4 with urgent := DeskM.left p4.urgent n } v2) := k3; clear k3)
  all_goals
    obtain ⟨o5, v5, hN5⟩ := HN5.out
    have HN5' : Hid (Now o w b v o5 (X5.setCell ⟨b, 40, none⟩ (.slice ra m rc)) { p4 with urgent := DeskM.left p4.urgent n } v5) := hN5
    clear hN5 HN5 HWo c40 ct
    go_wp2_with fail
    have hR := rest_any (p := { p4 with urgent := DeskM.left p4.urgent n }) (i := i) HN5'.out.pd (by show i < p4.workers.length; rw [HP4.out.2.2.2.1]; exact hi) (by show p4.known.length ≤ _; rw [HP4.out.2.2.1]; exact HB.out.2.1) (by show p4.workers.length ≤ _; rw [HP4.out.2.2.2.1]; exact HB.out.2.2.1)
    rw [HN5'.out.wb] at hR
    unfold ptrV at hR
    refine hR.mono ?_
    clear hR
    rintro e W6 ⟨rfl, hs⟩
    have HX : Hid (Stp o w b v.ts v.wb (p.accept i) W6) := by
      rw [HP4.out.2.2.2.2]
      obtain ⟨o6, v6, h6⟩ := HN5'.out.stp hs
      exact h6.done
    clear hs
    go_wp2
    go_end0
    exact ⟨rfl, HX.out⟩
end
end Go.Proofs.YtlbmcdoldnajoaaGreat
