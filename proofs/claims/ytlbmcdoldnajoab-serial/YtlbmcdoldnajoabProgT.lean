import Derived.Test.YtlbmcdoldnajoabProgS

namespace Go.Proofs.Ytlbmcdoldnajoab
theorem map_getD {α β : Type} (f : α → β) : ∀ (l : List α) (k : Nat) (x : α), (l.map f).getD k (f x) = f (l.getD k x) := fun l k x => by
  simp only [List.getD, List.getElem?_map]
  cases l[k]? <;> rfl
theorem po_task (d : DeskM) (n : Nat) : (progOf d).task n = taskOf (d.job n) := map_getD taskOf d.jobs (n - 1) jobM0
theorem wkOf_zero (d : DeskM) : wkOf d att0 = wk0 := rfl
theorem po_wk (d : DeskM) (i : Nat) : (progOf d).wk i = wkOf d (d.wk i) := by
  have := map_getD (wkOf d) d.workers i att0
  rw [wkOf_zero] at this
  exact this
theorem po_urgent {d : DeskM} (h : DInv d) (u : UInv d) {n : Nat} (hn : d.Has n) : (progOf d).isUrgent n = (d.job n).urgent := by
  unfold PM.isUrgent
  rw [po_task]
  show decide (d.c.patience < (d.job n).failed) = _
  cases e : (d.job n).urgent
  · have := u.calm n hn e
    exact decide_eq_false (by omega)
  · exact decide_eq_true (h.hurt n hn e)
theorem wkOf_congr {d e : DeskM} {a : AttM} (h : a.ticket ≠ 0 → (e.job a.ticket).steps = (d.job a.ticket).steps ∧ e.goods.take a.beg = d.goods.take a.beg) : wkOf e a = wkOf d a := by
  unfold wkOf
  by_cases h0 : a.ticket = 0
  · rw [if_pos h0, if_pos h0]
  · rw [if_neg h0, if_neg h0, (h h0).1, (h h0).2]
/-- the least beginning -/
def leastD (d : DeskM) : Nat := leastK (d.workers.map (wkOf d)) d.goods.length
theorem leastD_lt (d : DeskM) (k : Nat) : k < leastD d ↔ k < d.goods.length ∧ ∀ a ∈ d.workers, a.ticket ≠ 0 → k < a.beg := by
  unfold leastD
  rw [leastK_lt]
  have : (∀ a ∈ d.workers.map (wkOf d), a.ticket ≠ 0 → k < a.beg) ↔ ∀ a ∈ d.workers, a.ticket ≠ 0 → k < a.beg := by
    constructor
    · intro h a ha h0
      have := h (wkOf d a) (List.mem_map.2 ⟨a, ha, rfl⟩)
      unfold wkOf at this
      rw [if_neg h0] at this
      exact this h0
    · intro h a ha h0
      obtain ⟨b, hb, rfl⟩ := List.mem_map.1 ha
      unfold wkOf at h0 ⊢
      by_cases hb0 : b.ticket = 0
      · rw [if_pos hb0] at h0; exact absurd rfl h0
      · rw [if_neg hb0]; exact h b hb hb0
  rw [this]
theorem leastD_le {d : DeskM} {a : AttM} (ha : a ∈ d.workers) (h0 : a.ticket ≠ 0) : leastD d ≤ a.beg := by
  refine Nat.le_of_not_lt fun h => ?_
  have := ((leastD_lt d a.beg).1 h).2 a ha h0
  omega
theorem leastD_len (d : DeskM) : leastD d ≤ d.goods.length := by
  refine Nat.le_of_not_lt fun h => ?_
  have := ((leastD_lt d _).1 h).1
  omega
theorem leastD_mono {d e : DeskM} (hl : d.goods.length ≤ e.goods.length) (hw : ∀ a ∈ e.workers, a.ticket ≠ 0 → a ∈ d.workers) : leastD d ≤ leastD e := by
  refine Nat.le_of_not_lt fun h => ?_
  have h1 := (leastD_lt d _).1 h
  have h2 : leastD e < leastD e := (leastD_lt e _).2 ⟨by omega, fun a ha h0 => h1.2 a (hw a ha h0) h0⟩
  omega
theorem leastD_eq {d e : DeskM} (h : ∀ k, (k < d.goods.length ∧ ∀ a ∈ d.workers, a.ticket ≠ 0 → k < a.beg) ↔ (k < e.goods.length ∧ ∀ a ∈ e.workers, a.ticket ≠ 0 → k < a.beg)) : leastD d = leastD e := by
  have hk : ∀ k, k < leastD d ↔ k < leastD e := fun k => by rw [leastD_lt, leastD_lt]; exact h k
  have h1 := hk (leastD d)
  have h2 := hk (leastD e)
  omega
/-- the urgent ones that run -/
theorem runU_nil {d : DeskM} (h : ∀ a ∈ d.workers, a.ticket ≠ 0 → (d.job a.ticket).urgent = false) : runU d = [] := by
  unfold runU
  rw [List.map_eq_nil_iff, List.filter_eq_nil_iff]
  intro a ha hp
  rw [Bool.and_eq_true] at hp
  rw [h a ha (of_decide_eq_true hp.1)] at hp
  exact absurd hp.2 (by decide)
theorem wk_get {d : DeskM} {i : Nat} (hi : i < d.workers.length) : d.workers[i] = d.wk i := by simp [DeskM.wk, List.getD, hi]
theorem wk_at {d : DeskM} {a : AttM} (ha : a ∈ d.workers) : ∃ i, i < d.workers.length ∧ d.wk i = a := by
  obtain ⟨i, hi, e⟩ := List.getElem_of_mem ha
  exact ⟨i, hi, by rw [← wk_get hi]; exact e⟩
theorem wk_mem' {d : DeskM} {i : Nat} (hi : i < d.workers.length) : d.wk i ∈ d.workers := by rw [← wk_get hi]; exact List.getElem_mem _
theorem filter_one {α : Type} {p : α → Bool} : ∀ {l : List α} {i : Nat} (hi : i < l.length), p l[i] = true → (∀ k (hk : k < l.length), k ≠ i → p l[k] = false) → l.filter p = [l[i]]
  | [], i, hi, _, _ => by simp at hi
  | a :: r, 0, hi, h1, h2 => by
    rw [List.filter_cons]
    simp only [List.getElem_cons_zero] at h1
    rw [if_pos h1]
    have : r.filter p = [] := by
      rw [List.filter_eq_nil_iff]
      intro b hb hp
      obtain ⟨k, hk, e⟩ := List.getElem_of_mem hb
      have := h2 (k + 1) (by simp; omega) (by omega)
      rw [List.getElem_cons_succ, e, hp] at this
      cases this
    rw [this]; rfl
  | a :: r, i + 1, hi, h1, h2 => by
    rw [List.filter_cons]
    have h0 := h2 0 (by simp) (by omega)
    simp only [List.getElem_cons_zero] at h0
    rw [h0]
    simp only [Bool.false_eq_true, if_false, List.getElem_cons_succ]
    exact filter_one (by simpa using hi) (by simpa using h1) (fun k hk hki => by have := h2 (k + 1) (by simp; omega) (by omega); simpa using this)
theorem runU_calm {d : DeskM} (h : DInv d) (u : UInv d) {i : Nat} (hi : i < d.c.workers) (hi0 : (d.wk i).ticket ≠ 0) (hu : (d.job (d.wk i).ticket).urgent = false) : runU d = [] := by
  refine runU_nil fun a ha h0 => ?_
  obtain ⟨k, hk, rfl⟩ := wk_at ha
  by_cases e : k = i
  · rw [e]; exact hu
  · exact u.only hi hi0 (by rw [← h.wlen]; exact hk) e h0
theorem runU_one {d : DeskM} (h : DInv d) (u : UInv d) {i : Nat} (hi : i < d.c.workers) (hi0 : (d.wk i).ticket ≠ 0) (hu : (d.job (d.wk i).ticket).urgent = true) : runU d = [(d.wk i).ticket] := by
  have hi' : i < d.workers.length := by rw [h.wlen]; exact hi
  unfold runU
  rw [filter_one hi' (by rw [wk_get, decide_eq_true hi0, hu]; rfl) (fun k hk hki => by
    rw [wk_get, (u.alone i hi hi0 hu).2 k (by rw [← h.wlen]; exact hk) hki]; rfl)]
  rw [wk_get]; rfl
theorem runU_idle {d : DeskM} (h : ∀ k, k < d.workers.length → (d.wk k).ticket = 0) : runU d = [] := by
  refine runU_nil fun a ha h0 => ?_
  obtain ⟨k, hk, rfl⟩ := wk_at ha
  exact absurd (h k hk) h0
theorem po_allIdle {d : DeskM} (h : DInv d) : (progOf d).allIdle = d.idle := by
  unfold PM.allIdle
  show (d.workers.map (wkOf d)).all _ = _
  rw [List.all_map, Bool.eq_iff_iff, List.all_eq_true]
  have hw : ∀ a : AttM, ((fun a : WkM => decide (a.ticket = 0)) ∘ wkOf d) a = decide (a.ticket = 0) := fun a => by
    show decide ((wkOf d a).ticket = 0) = _
    unfold wkOf
    by_cases h0 : a.ticket = 0
    · rw [if_pos h0, decide_eq_true h0]; rfl
    · rw [if_neg h0]
  constructor
  · intro hall
    unfold DeskM.idle
    rw [List.all_eq_true]
    intro j hj
    obtain ⟨k, hk, e⟩ := List.getElem_of_mem hj
    have hhas : d.Has (k + 1) := ⟨by omega, by omega⟩
    have hjob : d.job (k + 1) = j := by simp [DeskM.job, List.getD, hk, e]
    refine decide_eq_true fun h2 => ?_
    obtain ⟨i, hi, ht⟩ := h.runs (k + 1) hhas (by rw [hjob]; exact h2)
    have := hall (d.wk i) (wk_mem' (by rw [h.wlen]; exact hi))
    rw [hw] at this
    have := of_decide_eq_true this
    omega
  · intro hid a ha
    rw [hw]
    refine decide_eq_true (Classical.byContradiction fun h0 => ?_)
    obtain ⟨i, hi, rfl⟩ := wk_at ha
    have hk := h.work i (by rw [← h.wlen]; exact hi) h0
    rw [idle_no hk.1 hk.2.1] at hid
    cases hid
theorem po_hurry {d : DeskM} (h : DInv d) : d.hurry = true ↔ runU d ++ d.urgent ≠ [] := by
  constructor
  · intro hh
    unfold DeskM.hurry at hh
    rw [List.any_eq_true] at hh
    obtain ⟨j, hj, hp⟩ := hh
    rw [Bool.and_eq_true] at hp
    obtain ⟨k, hk, e⟩ := List.getElem_of_mem hj
    have hhas : d.Has (k + 1) := ⟨by omega, by omega⟩
    have hjob : d.job (k + 1) = j := by simp [DeskM.job, List.getD, hk, e]
    have h2 := of_decide_eq_true hp.2
    have h1 := (h.jobs _ hhas).2.1
    rw [hjob] at h1
    by_cases hs : j.state = 1
    · have : k + 1 ∈ d.urgent := (h.urM _).2 ⟨hhas, by rw [hjob]; exact hs, by rw [hjob]; exact hp.1⟩
      intro hnil
      rw [List.append_eq_nil_iff] at hnil
      rw [hnil.2] at this
      simp at this
    · obtain ⟨i, hi, ht⟩ := h.runs (k + 1) hhas (by rw [hjob]; omega)
      have : k + 1 ∈ runU d := by
        unfold runU
        refine List.mem_map.2 ⟨d.wk i, List.mem_filter.2 ⟨wk_mem' (by rw [h.wlen]; exact hi), ?_⟩, ht⟩
        rw [ht, hjob, hp.1, decide_eq_true (show k + 1 ≠ 0 by omega)]
        rfl
      intro hnil
      rw [List.append_eq_nil_iff] at hnil
      rw [hnil.1] at this
      simp at this
  · intro hne
    obtain ⟨n, hn⟩ := List.exists_mem_of_ne_nil _ hne
    rcases List.mem_append.1 hn with hn | hn
    · unfold runU at hn
      obtain ⟨a, ha, rfl⟩ := List.mem_map.1 hn
      have ha' := List.mem_filter.1 ha
      obtain ⟨i, hi, rfl⟩ := wk_at ha'.1
      have hp := ha'.2
      rw [Bool.and_eq_true] at hp
      have hk := h.work i (by rw [← h.wlen]; exact hi) (of_decide_eq_true hp.1)
      exact hurry_yes hk.1 (by have := hk.2.1; omega) hp.2
    · have hk := (h.urM n).1 hn
      exact hurry_yes hk.1 (by have := hk.2.1; omega) hk.2.2
theorem po_next {d : DeskM} (h : DInv d) : (progOf d).next = d.nextJob := by
  unfold PM.next DeskM.nextJob
  rw [po_allIdle h]
  show (if runU d ++ d.urgent = [] then d.queue.getD 0 0 else if d.idle = true then (runU d ++ d.urgent).getD 0 0 else 0) = _
  cases hh : d.hurry
  · rw [if_pos (Classical.byContradiction fun hc => by rw [(po_hurry h).2 hc] at hh; cases hh)]
    rfl
  · rw [if_neg ((po_hurry h).1 hh)]
    cases hi : d.idle
    · rfl
    · have : runU d = [] := runU_idle fun k hk => Classical.byContradiction fun h0 => by
        have hw := h.work k (by rw [← h.wlen]; exact hk) h0
        rw [idle_no hw.1 hw.2.1] at hi; cases hi
      rw [this]; rfl
theorem po_set (d : DeskM) (n : Nat) (j : JobM) : (progOf d).tasks.set (n - 1) (taskOf j) = (d.setJob n j).jobs.map taskOf := by
  show (d.jobs.map taskOf).set (n - 1) (taskOf j) = (d.jobs.set (n - 1) j).map taskOf
  rw [List.map_set]
theorem left_none {l : List Nat} {n : Nat} (h : n ∉ l) : DeskM.left l n = l := by
  unfold DeskM.left
  rw [List.filter_eq_self]
  intro a ha
  exact decide_eq_true (fun e => h (e ▸ ha))
theorem left_head {l : List Nat} {n : Nat} (hd : (n :: l).Nodup) : DeskM.left (n :: l) n = l := by
  unfold DeskM.left
  rw [List.filter_cons, if_neg (by simp)]
  exact left_none (List.nodup_cons.1 hd).1
theorem PM.eq {p q : PM} (h1 : p.c = q.c) (h2 : p.vals = q.vals) (h3 : p.count = q.count) (h4 : p.known = q.known) (h5 : p.tasks = q.tasks) (h6 : p.queue = q.queue) (h7 : p.urgent = q.urgent) (h8 : p.workers = q.workers) : p = q := by
  obtain ⟨a1, a2, a3, a4, a5, a6, a7, a8⟩ := p
  obtain ⟨b1, b2, b3, b4, b5, b6, b7, b8⟩ := q
  simp only at h1 h2 h3 h4 h5 h6 h7 h8
  subst h1 h2 h3 h4 h5 h6 h7 h8
  rfl
/-- the workers, as the program keeps them, when one becomes another -/
theorem po_workers {d e : DeskM} (h : DInv d) {i : Nat} {a : AttM} (he : e.workers = d.workers.set i a)
    (hj : ∀ k, k < d.c.workers → k ≠ i → (d.wk k).ticket ≠ 0 → (e.job (d.wk k).ticket).steps = (d.job (d.wk k).ticket).steps ∧ e.goods.take (d.wk k).beg = d.goods.take (d.wk k).beg) :
    e.workers.map (wkOf e) = (d.workers.map (wkOf d)).set i (wkOf e a) := by
  rw [he, List.map_set]
  refine List.ext_getElem (by simp) (fun k h1 h2 => ?_)
  rw [List.getElem_set, List.getElem_set]
  by_cases e1 : i = k
  · rw [if_pos e1, if_pos e1]
  · rw [if_neg e1, if_neg e1, List.getElem_map, List.getElem_map]
    have hk : k < d.workers.length := by simpa using h1
    rw [wk_get hk]
    exact wkOf_congr (fun h0 => hj k (by rw [← h.wlen]; exact hk) (fun e => e1 e.symm) h0)
theorem set_mem {d : DeskM} {i : Nat} {a b : AttM} (h : b ∈ d.workers.set i a) : b = a ∨ b ∈ d.workers := by
  rcases List.mem_or_eq_of_mem_set h with h | h
  · exact Or.inr h
  · exact Or.inl h
end Go.Proofs.Ytlbmcdoldnajoab
