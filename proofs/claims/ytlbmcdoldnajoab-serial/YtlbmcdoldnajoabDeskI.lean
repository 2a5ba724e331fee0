import Derived.Test.YtlbmcdoldnajoabDeskG

namespace Go.Proofs.Ytlbmcdoldnajoab
def DeskM.wk (d : DeskM) (i : Nat) : AttM := d.workers.getD i att0
def DeskM.aX (d : DeskM) (a : AttM) : Mo := play (d.job a.ticket).steps (mapF (d.goods.take a.beg)) a.done mo0
structure DInv (d : DeskM) : Prop where
  g : GInv d
  conf : (1 ≤ d.c.workers ∧ d.c.workers ≤ 4) ∧ (1 ≤ d.c.queue ∧ d.c.queue ≤ 8) ∧ (1 ≤ d.c.fuel ∧ d.c.fuel ≤ 200) ∧ d.c.patience ≤ 5
  wlen : d.workers.length = d.c.workers
  jobs : ∀ n, d.Has n → jobB (d.job n).steps = true ∧ 1 ≤ (d.job n).state ∧ (d.job n).state ≤ 6
  quiet : ∀ n, d.Has n → ((d.job n).state ≤ 2 ∨ (d.job n).state = 6) → (d.job n).told = []
  quD : d.queue.Nodup
  quM : ∀ n, n ∈ d.queue ↔ d.Has n ∧ (d.job n).state = 1 ∧ (d.job n).urgent = false
  urD : d.urgent.Nodup
  urM : ∀ n, n ∈ d.urgent ↔ d.Has n ∧ (d.job n).state = 1 ∧ (d.job n).urgent = true
  work : ∀ i, i < d.c.workers → (d.wk i).ticket ≠ 0 → d.Has (d.wk i).ticket ∧ (d.job (d.wk i).ticket).state = 2 ∧ (d.wk i).beg ≤ d.goods.length ∧ (d.wk i).done ≤ d.c.fuel ∧ (d.aX (d.wk i)).fin = 0 ∧ (d.aX (d.wk i)).done = (d.wk i).done
  idle0 : ∀ i, i < d.c.workers → (d.wk i).ticket = 0 → d.wk i = att0
  runs : ∀ n, d.Has n → (d.job n).state = 2 → ∃ i, i < d.c.workers ∧ (d.wk i).ticket = n
  one : ∀ i k, i < d.c.workers → k < d.c.workers → (d.wk i).ticket = (d.wk k).ticket → (d.wk i).ticket ≠ 0 → i = k
  hurt : ∀ n, d.Has n → (d.job n).urgent = true → d.c.patience < (d.job n).failed
theorem dinv0 {c : ConfM} (hc : (1 ≤ c.workers ∧ c.workers ≤ 4) ∧ (1 ≤ c.queue ∧ c.queue ≤ 8) ∧ (1 ≤ c.fuel ∧ c.fuel ≤ 200) ∧ c.patience ≤ 5) : DInv (desk0 c) := by
  have hwk : ∀ i, (desk0 c).wk i = att0 := fun i => by
    simp only [DeskM.wk, desk0, List.getD]
    by_cases h : i < c.workers
    · simp [h]
    · simp [List.getElem?_eq_none (show (List.replicate c.workers att0).length ≤ i by simp; omega)]
  have hno : ∀ n, ¬ (desk0 c).Has n := fun n h => by have h1 := h.1; have h2 := h.2; simp [desk0] at h2; omega
  refine ⟨ginv0 c, hc, by simp [desk0], fun n h => absurd h (hno n), fun n h => absurd h (hno n), by simp [desk0], fun n => ?_, by simp [desk0], fun n => ?_, fun i _ h => ?_, fun i _ _ => hwk i, fun n h => absurd h (hno n), fun i k _ _ _ h => ?_, fun n h => absurd h (hno n)⟩
  · constructor
    · intro h; simp [desk0] at h
    · intro h; exact absurd h.1 (hno n)
  · constructor
    · intro h; simp [desk0] at h
    · intro h; exact absurd h.1 (hno n)
  · rw [hwk] at h; exact absurd rfl h
  · rw [hwk] at h; exact absurd rfl h
/-- a job n that is no worker's takes a state that is not Running; or a worker's job stops -/
theorem dinv_stop {d e : DeskM} (h : DInv d) {n : Nat} (hn : d.Has n) {j : JobM} (hur : j.urgent = true → d.c.patience < j.failed) (hs : j.steps = (d.job n).steps) (hstate : 1 ≤ j.state ∧ j.state ≤ 6) (h2 : j.state ≠ 2) (hq0 : (j.state ≤ 2 ∨ j.state = 6) → j.told = [])
    (hc : e.c = d.c) (he : e.jobs = (d.setJob n j).jobs) (hge : GInv e) (hgl : d.goods.length ≤ e.goods.length) (hgt : ∀ b, b ≤ d.goods.length → e.goods.take b = d.goods.take b) (hwl : e.workers.length = d.workers.length)
    (hqd : e.queue.Nodup) (hqm : ∀ m, m ∈ e.queue ↔ (m = n ∧ j.state = 1 ∧ j.urgent = false) ∨ (m ≠ n ∧ m ∈ d.queue))
    (hud : e.urgent.Nodup) (hum : ∀ m, m ∈ e.urgent ↔ (m = n ∧ j.state = 1 ∧ j.urgent = true) ∨ (m ≠ n ∧ m ∈ d.urgent))
    (hw : ∀ k, k < d.c.workers → e.wk k = if (d.wk k).ticket = n then att0 else d.wk k) : DInv e := by
  have hlen : e.jobs.length = d.jobs.length := by rw [he, set_len]
  have hhas : ∀ m, e.Has m ↔ d.Has m := fun m => by unfold DeskM.Has; rw [hlen]
  have hjob : ∀ m, 1 ≤ m → e.job m = if m = n then j else d.job m := fun m hm => by
    have : e.job m = (d.setJob n j).job m := by unfold DeskM.job; rw [he]
    rw [this, job_set hn hm]
  have hn0 : n ≠ 0 := by have := hn.1; omega
  refine ⟨hge, by rw [hc]; exact h.conf, by rw [hwl, hc]; exact h.wlen, fun m hm => ?_, fun m hm => ?_, hqd, fun m => ?_, hud, fun m => ?_, fun i hi ht => ?_, fun i hi ht => ?_, fun m hm h2' => ?_, fun i k hi hk ht h0 => ?_, fun m hm hu' => ?_⟩
  · have hm' := (hhas m).1 hm
    rw [hjob m hm.1]
    by_cases e1 : m = n
    · rw [if_pos e1]; exact ⟨by rw [hs]; exact (h.jobs n hn).1, hstate⟩
    · rw [if_neg e1]; exact h.jobs m hm'
  · have hm' := (hhas m).1 hm
    rw [hjob m hm.1]
    by_cases e1 : m = n
    · rw [if_pos e1]; exact hq0
    · rw [if_neg e1]; exact h.quiet m hm'
  · rw [hqm, hhas]
    by_cases e1 : m = n
    · subst e1
      rw [hjob m hn.1, if_pos rfl]
      constructor
      · rintro (⟨_, a, b⟩ | ⟨a, _⟩)
        · exact ⟨hn, a, b⟩
        · exact absurd rfl a
      · rintro ⟨_, a, b⟩; exact Or.inl ⟨rfl, a, b⟩
    · constructor
      · rintro (⟨a, _⟩ | ⟨_, a⟩)
        · exact absurd a e1
        · have hm := (h.quM m).1 a
          rw [hjob m hm.1.1, if_neg e1]; exact hm
      · rintro ⟨a, b⟩
        rw [hjob m a.1, if_neg e1] at b
        exact Or.inr ⟨e1, (h.quM m).2 ⟨a, b⟩⟩
  · rw [hum, hhas]
    by_cases e1 : m = n
    · subst e1
      rw [hjob m hn.1, if_pos rfl]
      constructor
      · rintro (⟨_, a, b⟩ | ⟨a, _⟩)
        · exact ⟨hn, a, b⟩
        · exact absurd rfl a
      · rintro ⟨_, a, b⟩; exact Or.inl ⟨rfl, a, b⟩
    · constructor
      · rintro (⟨a, _⟩ | ⟨_, a⟩)
        · exact absurd a e1
        · have hm := (h.urM m).1 a
          rw [hjob m hm.1.1, if_neg e1]; exact hm
      · rintro ⟨a, b⟩
        rw [hjob m a.1, if_neg e1] at b
        exact Or.inr ⟨e1, (h.urM m).2 ⟨a, b⟩⟩
  · rw [hc] at hi
    by_cases e1 : (d.wk i).ticket = n
    · rw [hw i hi, if_pos e1] at ht; exact absurd rfl ht
    · rw [hw i hi, if_neg e1] at ht ⊢
      obtain ⟨a1, a2, a3, a4, a5, a6⟩ := h.work i hi ht
      have hax : e.aX (d.wk i) = d.aX (d.wk i) := by
        unfold DeskM.aX
        rw [hjob _ a1.1, if_neg e1, hgt _ a3]
      refine ⟨(hhas _).2 a1, by rw [hjob _ a1.1, if_neg e1]; exact a2, by omega, by rw [hc]; exact a4, by rw [hax]; exact a5, by rw [hax]; exact a6⟩
  · rw [hc] at hi
    by_cases e1 : (d.wk i).ticket = n
    · rw [hw i hi, if_pos e1]
    · rw [hw i hi, if_neg e1] at ht ⊢
      exact h.idle0 i hi ht
  · have hm' := (hhas m).1 hm
    rw [hjob m hm.1] at h2'
    by_cases e1 : m = n
    · rw [if_pos e1] at h2'; exact absurd h2' h2
    · rw [if_neg e1] at h2'
      obtain ⟨i, hi, ht⟩ := h.runs m hm' h2'
      refine ⟨i, by rw [hc]; exact hi, ?_⟩
      rw [hw i hi, if_neg (by rw [ht]; exact e1)]; exact ht
  · rw [hc] at hi hk
    rw [hw i hi] at ht h0
    rw [hw k hk] at ht
    by_cases e1 : (d.wk i).ticket = n
    · rw [if_pos e1] at h0; exact absurd rfl h0
    · rw [if_neg e1] at ht h0
      by_cases e2 : (d.wk k).ticket = n
      · rw [if_pos e2] at ht; exact absurd ht h0
      · rw [if_neg e2] at ht; exact h.one i k hi hk ht h0
  · have hm' := (hhas m).1 hm
    rw [hjob m hm.1] at hu' ⊢
    rw [hc]
    by_cases e1 : m = n
    · rw [if_pos e1] at hu' ⊢; exact hur hu'
    · rw [if_neg e1] at hu' ⊢; exact h.hurt m hm' hu'
/-- an idle worker i takes the job n, which waits -/
theorem dinv_start {d e : DeskM} (h : DInv d) {n i : Nat} (hn : d.Has n) (hn1 : (d.job n).state = 1) (hi : i < d.c.workers) (hi0 : (d.wk i).ticket = 0) {j : JobM} (hur : j.urgent = true → d.c.patience < j.failed) (hs : j.steps = (d.job n).steps) (hj : j.state = 2) (hjt : j.told = [])
    (hc : e.c = d.c) (he : e.jobs = (d.setJob n j).jobs) (hg : e.goods = d.goods) (hwl : e.workers.length = d.workers.length)
    (hqd : e.queue.Nodup) (hqm : ∀ m, m ∈ e.queue ↔ m ≠ n ∧ m ∈ d.queue) (hud : e.urgent.Nodup) (hum : ∀ m, m ∈ e.urgent ↔ m ≠ n ∧ m ∈ d.urgent)
    (hw : ∀ k, k < d.c.workers → e.wk k = if k = i then ⟨n, d.goods.length, 0⟩ else d.wk k) : DInv e := by
  have hlen : e.jobs.length = d.jobs.length := by rw [he, set_len]
  have hhas : ∀ m, e.Has m ↔ d.Has m := fun m => by unfold DeskM.Has; rw [hlen]
  have hjob : ∀ m, 1 ≤ m → e.job m = if m = n then j else d.job m := fun m hm => by
    have : e.job m = (d.setJob n j).job m := by unfold DeskM.job; rw [he]
    rw [this, job_set hn hm]
  have hn0 : n ≠ 0 := by have := hn.1; omega
  have hno : ¬ DeskM.Over (d.job n) := fun ho => by have := ho.1; omega
  have hge : GInv e := h.g.turn hn hno hs (fun ho => by have := ho.1; omega) hc hg he
  have hne : ∀ k, k < d.c.workers → (d.wk k).ticket ≠ n := fun k hk et => by
    have := (h.work k hk (by rw [et]; exact hn0)).2.1
    rw [et] at this; omega
  refine ⟨hge, by rw [hc]; exact h.conf, by rw [hwl, hc]; exact h.wlen, fun m hm => ?_, fun m hm => ?_, hqd, fun m => ?_, hud, fun m => ?_, fun k hk ht => ?_, fun k hk ht => ?_, fun m hm h2' => ?_, fun k k2 hk hk2 ht h0 => ?_, fun m hm hu' => ?_⟩
  · have hm' := (hhas m).1 hm
    rw [hjob m hm.1]
    by_cases e1 : m = n
    · rw [if_pos e1]; exact ⟨by rw [hs]; exact (h.jobs n hn).1, by omega, by omega⟩
    · rw [if_neg e1]; exact h.jobs m hm'
  · have hm' := (hhas m).1 hm
    rw [hjob m hm.1]
    by_cases e1 : m = n
    · rw [if_pos e1]; exact fun _ => hjt
    · rw [if_neg e1]; exact h.quiet m hm'
  · rw [hqm, hhas]
    constructor
    · rintro ⟨e1, a⟩
      have hm := (h.quM m).1 a
      rw [hjob m hm.1.1, if_neg e1]; exact hm
    · rintro ⟨a, b⟩
      rw [hjob m a.1] at b
      by_cases e1 : m = n
      · rw [if_pos e1] at b; have := b.1; omega
      · rw [if_neg e1] at b; exact ⟨e1, (h.quM m).2 ⟨a, b⟩⟩
  · rw [hum, hhas]
    constructor
    · rintro ⟨e1, a⟩
      have hm := (h.urM m).1 a
      rw [hjob m hm.1.1, if_neg e1]; exact hm
    · rintro ⟨a, b⟩
      rw [hjob m a.1] at b
      by_cases e1 : m = n
      · rw [if_pos e1] at b; have := b.1; omega
      · rw [if_neg e1] at b; exact ⟨e1, (h.urM m).2 ⟨a, b⟩⟩
  · rw [hc] at hk
    rw [hw k hk] at ht ⊢
    by_cases e1 : k = i
    · rw [if_pos e1]
      refine ⟨(hhas n).2 hn, by rw [hjob n hn.1, if_pos rfl]; exact hj, by rw [hg]; exact Nat.le_refl _, Nat.zero_le _, rfl, rfl⟩
    · rw [if_neg e1] at ht ⊢
      obtain ⟨a1, a2, a3, a4, a5, a6⟩ := h.work k hk ht
      have ne := hne k hk
      have hax : e.aX (d.wk k) = d.aX (d.wk k) := by
        unfold DeskM.aX
        rw [hjob _ a1.1, if_neg ne, hg]
      refine ⟨(hhas _).2 a1, by rw [hjob _ a1.1, if_neg ne]; exact a2, by rw [hg]; exact a3, by rw [hc]; exact a4, by rw [hax]; exact a5, by rw [hax]; exact a6⟩
  · rw [hc] at hk
    rw [hw k hk] at ht ⊢
    by_cases e1 : k = i
    · rw [if_pos e1] at ht; exact absurd ht hn0
    · rw [if_neg e1] at ht ⊢; exact h.idle0 k hk ht
  · have hm' := (hhas m).1 hm
    rw [hjob m hm.1] at h2'
    by_cases e1 : m = n
    · exact ⟨i, by rw [hc]; exact hi, by rw [hw i hi, if_pos rfl]; exact e1.symm⟩
    · rw [if_neg e1] at h2'
      obtain ⟨k, hk, ht⟩ := h.runs m hm' h2'
      refine ⟨k, by rw [hc]; exact hk, ?_⟩
      have : k ≠ i := fun e2 => by rw [e2, hi0] at ht; have := hm.1; omega
      rw [hw k hk, if_neg this]; exact ht
  · rw [hc] at hk hk2
    rw [hw k hk] at ht h0
    rw [hw k2 hk2] at ht
    by_cases e1 : k = i
    · by_cases e2 : k2 = i
      · rw [e1, e2]
      · rw [if_pos e1, if_neg e2] at ht
        exact absurd ht.symm (hne k2 hk2)
    · by_cases e2 : k2 = i
      · rw [if_neg e1, if_pos e2] at ht
        exact absurd ht (hne k hk)
      · rw [if_neg e1] at ht h0
        rw [if_neg e2] at ht
        exact h.one k k2 hk hk2 ht h0
  · have hm' := (hhas m).1 hm
    rw [hjob m hm.1] at hu' ⊢
    rw [hc]
    by_cases e1 : m = n
    · rw [if_pos e1] at hu' ⊢; exact hur hu'
    · rw [if_neg e1] at hu' ⊢; exact h.hurt m hm' hu'
end Go.Proofs.Ytlbmcdoldnajoab
