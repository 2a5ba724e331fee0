import Derived.Test.YtlbmcdoldnajoaaDeskP

namespace Go.Proofs.Ytlbmcdoldnajoaa
theorem find_some {l : List Nat} {p : Nat → Bool} {n : Nat} (h : (l.find? p).elim 0 (· + 1) = n) (hn : n ≠ 0) : ∃ u, n = u + 1 ∧ u ∈ l ∧ p u = true := by
  cases e : l.find? p with
  | none => rw [e] at h; simp at h; omega
  | some u => rw [e] at h; simp at h; exact ⟨u, h.symm, List.mem_of_find?_eq_some e, List.find?_some e⟩
theorem share_some {a b : List Bool} (h : DeskM.share a b = true) : ∃ k, k < 16 ∧ a.getD k false = true ∧ b.getD k false = true := by
  simp only [DeskM.share, List.any_eq_true, List.mem_range, Bool.and_eq_true] at h
  exact h
/-- the partner: later than the attempt's beginning; it wrote a key -/
theorem partner_facts {d : DeskM} {t : GoodM} (h : d.partner t ≠ 0) : t.beg < d.partner t ∧ d.partner t ≤ d.goods.length ∧ ∃ k : Nat, ((d.good (d.partner t)).puts k).isSome = true := by
  have hw : ∀ (u : Nat) (b : List Bool), DeskM.share (DeskM.wroteL (d.good (u + 1)).puts) b = true → ∃ k : Nat, ((d.good (u + 1)).puts k).isSome = true := fun u b hs => by
    obtain ⟨k, hk, h1, _⟩ := share_some hs
    rw [wroteL_at _ hk] at h1
    exact ⟨k, h1⟩
  by_cases hc : d.clash t ≠ 0
  · have e : d.partner t = d.clash t := by unfold DeskM.partner; rw [if_pos hc]
    rw [e]
    obtain ⟨u, hu, hm, hp⟩ := find_some (n := d.clash t) rfl hc
    rw [Bool.and_eq_true] at hp
    rw [hu]
    have h1 : t.beg ≤ u := by simpa using hp.1
    have h2 : u < d.goods.length := by simpa using hm
    exact ⟨by omega, by omega, hw u _ hp.2⟩
  · by_cases hv : d.pivot t ≠ 0
    · have e : d.partner t = d.pivot t := by unfold DeskM.partner; rw [if_neg hc, if_pos hv]
      rw [e]
      obtain ⟨u, hu, hm, hp⟩ := find_some (n := d.pivot t) rfl hv
      rw [Bool.and_eq_true, Bool.and_eq_true] at hp
      rw [hu]
      have h1 : t.beg ≤ u := by simpa using hp.1.1
      have h2 : u < d.goods.length := by simpa using hm
      exact ⟨by omega, by omega, hw u _ hp.1.2⟩
    · have e : d.partner t = d.outer t := by unfold DeskM.partner; rw [if_neg hc, if_neg hv]
      have ho : d.outer t ≠ 0 := by rw [← e]; exact h
      rw [e]
      obtain ⟨u, hu, hm, hp⟩ := find_some (n := d.outer t) rfl ho
      rw [Bool.and_eq_true, Bool.and_eq_true] at hp
      rw [hu]
      have h1 : t.beg ≤ u := by simpa using hp.1.1
      have h2 : u < d.goods.length := by simpa using hm
      exact ⟨by omega, by omega, hw u _ hp.1.2⟩
/-- of a desk: the partner's job is Committed -/
theorem partner_done {d : DeskM} (h : DInv d) {t : GoodM} (hp : d.partner t ≠ 0) : d.Has (d.good (d.partner t)).ticket ∧ (d.job (d.good (d.partner t)).ticket).state = 3 := by
  obtain ⟨_, h2, k, hk⟩ := partner_facts hp
  have hi : d.partner t - 1 < d.goods.length := by omega
  have e : d.good (d.partner t) = gAt d.goods (d.partner t - 1) := rfl
  rw [e] at hk ⊢
  obtain ⟨a1, a2, _⟩ := h.g.gjob _ hi
  refine ⟨a1, ?_⟩
  have hputs := h.g.goods.puts _ hi
  rw [a2]
  refine Classical.byContradiction fun hne => ?_
  rw [if_neg hne] at hputs
  have : ((gP d.goods (d.partner t - 1)) k).isSome = true := hk
  rw [hputs] at this
  simp at this
/-- nothing found good behind its beginning: no partner -/
theorem no_later {d : DeskM} {t : GoodM} (h : t.beg = d.goods.length) : d.partner t = 0 := by
  refine Classical.byContradiction fun hp => ?_
  have := partner_facts hp
  omega
end Go.Proofs.Ytlbmcdoldnajoaa

namespace Go.Proofs.Ytlbmcdoldnajoaa
structure UInv (d : DeskM) : Prop where
  alone : ∀ i, i < d.c.workers → (d.wk i).ticket ≠ 0 → (d.job (d.wk i).ticket).urgent = true → (d.wk i).beg = d.goods.length ∧ ∀ k, k < d.c.workers → k ≠ i → (d.wk k).ticket = 0
  few : ∀ n, d.Has n → (d.job n).failed ≤ d.c.patience + 1
  calm : ∀ n, d.Has n → (d.job n).urgent = false → (d.job n).failed ≤ d.c.patience
theorem uinv0 (c : ConfM) : UInv (desk0 c) := by
  have hwk : ∀ i, ((desk0 c).wk i) = att0 := fun i => by
    simp only [DeskM.wk, desk0, List.getD]
    by_cases h : i < c.workers
    · simp [h]
    · simp [List.getElem?_eq_none (show (List.replicate c.workers att0).length ≤ i by simp; omega)]
  have hno : ∀ n, ¬ (desk0 c).Has n := fun n h => by have h1 := h.1; have h2 := h.2; simp [desk0] at h2; omega
  exact ⟨fun i _ h => absurd (by rw [hwk]; rfl) h, fun n h => absurd h (hno n), fun n h => absurd h (hno n)⟩
/-- calls that start no attempt and make none urgent -/
theorem UInv.mono {d e : DeskM} (h : DInv d) (u : UInv d) (hc : e.c = d.c) (hg : e.goods = d.goods) (hj : ∀ n, d.Has n → (e.job n).urgent = (d.job n).urgent ∧ (e.job n).failed = (d.job n).failed)
    (hnew : ∀ n, e.Has n → d.Has n ∨ ((e.job n).urgent = false ∧ (e.job n).failed = 0)) (hw : ∀ k, k < d.c.workers → e.wk k = d.wk k ∨ e.wk k = att0) : UInv e := by
  refine ⟨fun i hi h0 hu => ?_, fun n hn => ?_, fun n hn hu => ?_⟩
  · rw [hc] at hi
    rcases hw i hi with e1 | e1
    · rw [e1] at h0 hu ⊢
      have hn := (h.work i hi h0).1
      rw [(hj _ hn).1] at hu
      obtain ⟨a1, a2⟩ := u.alone i hi h0 hu
      refine ⟨by rw [hg]; exact a1, fun k hk hki => ?_⟩
      rw [hc] at hk
      rcases hw k hk with e2 | e2
      · rw [e2]; exact a2 k hk hki
      · rw [e2]; rfl
    · rw [e1] at h0; exact absurd rfl h0
  · rw [hc]
    rcases hnew n hn with hn' | ⟨_, h0⟩
    · rw [(hj n hn').2]; exact u.few n hn'
    · omega
  · rw [hc]
    rcases hnew n hn with hn' | ⟨_, h0⟩
    · rw [(hj n hn').1] at hu; rw [(hj n hn').2]; exact u.calm n hn' hu
    · omega
theorem UInv.submit {d : DeskM} (h : DInv d) (u : UInv d) (l : List St) : UInv (d.submit l).1 := by
  unfold DeskM.submit
  split
  · exact u
  · split
    · exact u
    · refine u.mono h rfl rfl (fun n hn => ?_) (fun n hn => ?_) (fun k _ => Or.inl rfl)
      · have : DeskM.job { d with jobs := d.jobs ++ [⟨l, 1, [], 0, 0, false⟩], queue := d.queue ++ [d.jobs.length + 1] } n = d.job n := by
          have h1 := hn.1
          have h2 := hn.2
          simp only [DeskM.job, List.getD]
          rw [List.getElem?_append_left (by omega)]
        rw [this]; exact ⟨rfl, rfl⟩
      · have h1 := hn.1
        have h2 : n ≤ d.jobs.length + 1 := by have := hn.2; simpa using this
        by_cases e : n = d.jobs.length + 1
        · right
          have : DeskM.job { d with jobs := d.jobs ++ [⟨l, 1, [], 0, 0, false⟩], queue := d.queue ++ [d.jobs.length + 1] } n = ⟨l, 1, [], 0, 0, false⟩ := by rw [e]; simp [DeskM.job, List.getD]
          rw [this]; exact ⟨rfl, rfl⟩
        · exact Or.inl ⟨h1, by omega⟩
theorem uset {d : DeskM} {n : Nat} (hn : d.Has n) {j : JobM} (hu : j.urgent = (d.job n).urgent) (hf : j.failed = (d.job n).failed) {e : DeskM} (he : e.jobs = (d.setJob n j).jobs) :
    (∀ m, d.Has m → (e.job m).urgent = (d.job m).urgent ∧ (e.job m).failed = (d.job m).failed) ∧ ∀ m, e.Has m → d.Has m := by
  refine ⟨fun m hm => ?_, fun m hm => ⟨hm.1, by have := hm.2; rw [he, set_len] at this; exact this⟩⟩
  have : e.job m = (d.setJob n j).job m := by unfold DeskM.job; rw [he]
  rw [this, job_set hn hm.1]
  by_cases e1 : m = n
  · rw [if_pos e1, e1]; exact ⟨hu, hf⟩
  · rw [if_neg e1]; exact ⟨rfl, rfl⟩
end Go.Proofs.Ytlbmcdoldnajoaa
