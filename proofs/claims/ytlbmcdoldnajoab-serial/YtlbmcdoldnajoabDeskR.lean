import Derived.Test.YtlbmcdoldnajoabProgR

namespace Go.Proofs.Ytlbmcdoldnajoab
def tot (f : Nat → Nat) : Nat → Nat
  | 0 => 0
  | k + 1 => tot f k + f (k + 1)
theorem tot_le {f g : Nat → Nat} : ∀ k, (∀ m, 1 ≤ m → m ≤ k → f m ≤ g m) → tot f k ≤ tot g k
  | 0, _ => Nat.le_refl _
  | k + 1, h => Nat.add_le_add (tot_le k (fun m h1 h2 => h m h1 (by omega))) (h (k + 1) (by omega) (Nat.le_refl _))
theorem tot_lt {f g : Nat → Nat} {n : Nat} (hn : 1 ≤ n) (hf : f n < g n) : ∀ k, n ≤ k → (∀ m, 1 ≤ m → m ≤ k → f m ≤ g m) → tot f k < tot g k
  | 0, h0, _ => by omega
  | k + 1, hk, h => by
    by_cases e : n = k + 1
    · subst e
      exact Nat.add_lt_add_of_le_of_lt (tot_le k (fun m h1 h2 => h m h1 (by omega))) hf
    · exact Nat.add_lt_add_of_lt_of_le (tot_lt hn hf k (by omega) (fun m h1 h2 => h m h1 (by omega))) (h (k + 1) (by omega) (Nat.le_refl _))
/-- what the attempt of a job that runs has done already -/
def spent (d : DeskM) (n : Nat) : Nat := (d.workers.find? fun a => decide (a.ticket = n)).elim 0 (fun a => a.done + 1)
def phi (d : DeskM) (n : Nat) : Nat := if (d.job n).state ≤ 2 then (d.c.patience + 2 - (d.job n).failed) * (d.c.fuel + 3) - spent d n else 0
def Phi (d : DeskM) : Nat := tot (phi d) d.jobs.length
theorem wk_mem {d : DeskM} (h : d.workers.length = d.c.workers) {a : AttM} (ha : a ∈ d.workers) : ∃ i, i < d.c.workers ∧ d.wk i = a := by
  obtain ⟨i, hi, rfl⟩ := List.getElem_of_mem ha
  exact ⟨i, by omega, by simp [DeskM.wk, List.getD, hi]⟩
theorem wk_in {d : DeskM} (h : d.workers.length = d.c.workers) {i : Nat} (hi : i < d.c.workers) : d.wk i ∈ d.workers := by
  have hlt : i < d.workers.length := by omega
  have : d.wk i = d.workers[i] := by simp [DeskM.wk, List.getD, hlt]
  rw [this]; exact List.getElem_mem _
theorem spent_run {d : DeskM} (h : DInv d) {i n : Nat} (hi : i < d.c.workers) (ht : (d.wk i).ticket = n) (hn : n ≠ 0) : spent d n = (d.wk i).done + 1 := by
  unfold spent
  cases e : d.workers.find? fun a => decide (a.ticket = n) with
  | none =>
    have := List.find?_eq_none.1 e (d.wk i) (wk_in h.wlen hi)
    simp [ht] at this
  | some a =>
    obtain ⟨k, hk, hka⟩ := wk_mem h.wlen (List.mem_of_find?_eq_some e)
    have ha : a.ticket = n := by simpa using List.find?_some e
    have : k = i := h.one k i hk hi (by rw [hka, ha, ht]) (by rw [hka, ha]; exact hn)
    subst this
    rw [hka]; rfl
theorem spent_none {d : DeskM} (h : d.workers.length = d.c.workers) {n : Nat} (hno : ∀ i, i < d.c.workers → (d.wk i).ticket ≠ n) : spent d n = 0 := by
  unfold spent
  cases e : d.workers.find? fun a => decide (a.ticket = n) with
  | none => rfl
  | some a =>
    obtain ⟨k, hk, hka⟩ := wk_mem h (List.mem_of_find?_eq_some e)
    have ha : a.ticket = n := by simpa using List.find?_some e
    exact absurd (by rw [hka]; exact ha) (hno k hk)
theorem spent_le {d : DeskM} (h : DInv d) {n : Nat} (hn : n ≠ 0) : spent d n ≤ d.c.fuel + 1 := by
  by_cases hx : ∃ i, i < d.c.workers ∧ (d.wk i).ticket = n
  · obtain ⟨i, hi, ht⟩ := hx
    rw [spent_run h hi ht hn]
    have := (h.work i hi (by rw [ht]; exact hn)).2.2.2.1
    omega
  · rw [spent_none h.wlen (fun i hi ht => hx ⟨i, hi, ht⟩)]; omega
theorem mul_ge {a b : Nat} (h : 1 ≤ a) : b ≤ a * b := by
  have := Nat.mul_le_mul_right b h
  omega
/-- a job that is not over is worth something -/
theorem phi_pos {d : DeskM} (h : DInv d) (u : UInv d) {n : Nat} (hn : d.Has n) (h2 : (d.job n).state ≤ 2) : 1 ≤ phi d n := by
  unfold phi
  rw [if_pos h2]
  have hf := u.few n hn
  have hs := spent_le h (n := n) (by have := hn.1; omega)
  have hm := mul_ge (a := d.c.patience + 2 - (d.job n).failed) (b := d.c.fuel + 3) (by omega)
  omega
theorem phi_other {d e : DeskM} (h : DInv d) (k : DInv e) (hc : e.c = d.c) {m : Nat} (hm : m ≠ 0) (hj : (e.job m).state = (d.job m).state ∧ (e.job m).failed = (d.job m).failed) (hw : ∀ i, i < d.c.workers → (e.wk i).ticket = m ∨ (d.wk i).ticket = m → e.wk i = d.wk i) : phi e m = phi d m := by
  have hs : spent e m = spent d m := by
    by_cases hx : ∃ i, i < d.c.workers ∧ (d.wk i).ticket = m
    · obtain ⟨i, hi, ht⟩ := hx
      have e1 := hw i hi (Or.inr ht)
      rw [spent_run h hi ht hm, spent_run k (i := i) (by rw [hc]; exact hi) (by rw [e1]; exact ht) hm, e1]
    · rw [spent_none h.wlen (fun i hi ht => hx ⟨i, hi, ht⟩), spent_none k.wlen (fun i hi ht => ?_)]
      rw [hc] at hi
      exact hx ⟨i, hi, by rw [← hw i hi (Or.inl ht)]; exact ht⟩
  unfold phi
  rw [hc, hj.1, hj.2, hs]
/-- where one job's worth falls and no other's turns, the whole falls -/
theorem Phi_lt {d e : DeskM} (hlen : e.jobs.length = d.jobs.length) {n : Nat} (hn : d.Has n) (h1 : phi e n < phi d n) (h2 : ∀ m, d.Has m → m ≠ n → phi e m = phi d m) : Phi e < Phi d := by
  unfold Phi
  rw [hlen]
  refine tot_lt hn.1 h1 _ hn.2 (fun m hm1 hm2 => ?_)
  by_cases e1 : m = n
  · subst e1; exact Nat.le_of_lt h1
  · exact Nat.le_of_eq (h2 m ⟨hm1, hm2⟩ e1)
theorem taken_Phi {d : DeskM} (h : DInv d) (u : UInv d) {i : Nat} (hi : i < d.c.workers) (hi0 : (d.wk i).ticket = 0) (hn0 : d.nextJob ≠ 0) : Phi (d.taken i).1 < Phi d := by
  have hk := h.taken hi hi0
  have hmem := next_mem hn0
  unfold DeskM.taken at hk ⊢
  simp only at hk ⊢
  rw [if_neg hn0] at hk ⊢
  obtain ⟨n, hnn⟩ : ∃ n, n = d.nextJob := ⟨_, rfl⟩
  rw [← hnn] at hmem hn0 hk ⊢
  have hn : d.Has n ∧ (d.job n).state = 1 := by
    rcases hmem with hm | hm
    · have := (h.urM n).1 hm; exact ⟨this.1, this.2.1⟩
    · have := (h.quM n).1 hm; exact ⟨this.1, this.2.1⟩
  obtain ⟨e, he⟩ : ∃ e : DeskM, e = { d.setJob n { d.job n with state := 2, tries := (d.job n).tries + 1 } with queue := DeskM.left d.queue n, urgent := DeskM.left d.urgent n, workers := d.workers.set i ⟨n, d.goods.length, 0⟩ } := ⟨_, rfl⟩
  rw [← he] at hk ⊢
  have hwk : ∀ k, e.wk k = if k = i then ⟨n, d.goods.length, 0⟩ else d.wk k := fun k => by rw [he]; exact wk_set (by rw [h.wlen]; exact hi) _ k
  have hc : e.c = d.c := by rw [he]; rfl
  have hlen : e.jobs.length = d.jobs.length := by rw [he]; exact set_len _ _ _
  have hjob : ∀ m, 1 ≤ m → e.job m = if m = n then { d.job n with state := 2, tries := (d.job n).tries + 1 } else d.job m := fun m hm => by
    have : e.job m = (d.setJob n { d.job n with state := 2, tries := (d.job n).tries + 1 }).job m := by rw [he]; rfl
    rw [this, job_set hn.1 hm]
  refine Phi_lt hlen hn.1 ?_ (fun m hm hne => ?_)
  · have hpos := phi_pos h u hn.1 (by omega)
    have hsp : spent e n = 1 := by
      rw [spent_run hk (i := i) (by rw [hc]; exact hi) (by rw [hwk, if_pos rfl]) hn0, hwk, if_pos rfl]
    have hs0 : spent d n = 0 := spent_none h.wlen (fun k hk' ht => by have := (h.work k hk' (by rw [ht]; exact hn0)).2.1; rw [ht] at this; omega)
    have e1 : phi e n = (d.c.patience + 2 - (d.job n).failed) * (d.c.fuel + 3) - 1 := by
      unfold phi
      rw [hjob n hn.1.1, if_pos rfl, hc, hsp]
      exact if_pos (show (2 : Int) ≤ 2 by omega)
    have e2 : phi d n = (d.c.patience + 2 - (d.job n).failed) * (d.c.fuel + 3) := by
      unfold phi
      rw [if_pos (by omega), hs0]; rfl
    rw [e1]
    rw [e2] at hpos ⊢
    omega
  · refine phi_other h hk hc (by have := hm.1; omega) (by rw [hjob m hm.1, if_neg hne]; exact ⟨rfl, rfl⟩) (fun k _ hor => ?_)
    by_cases e1 : k = i
    · subst e1
      rcases hor with hor | hor
      · rw [hwk, if_pos rfl] at hor; exact absurd hor.symm hne
      · rw [hi0] at hor; have := hm.1; omega
    · rw [hwk, if_neg e1]
/-- the worker i stops its attempt of the job n, which takes j -/
theorem stop_Phi {d e : DeskM} (h : DInv d) (u : UInv d) (k : DInv e) {i n : Nat} (hi : i < d.c.workers) (ht : (d.wk i).ticket = n) (hn0 : n ≠ 0) {j : JobM} (hj : 2 < j.state ∨ j.failed = (d.job n).failed + 1) (hc : e.c = d.c) (he : e.jobs = (d.setJob n j).jobs) (hw : ∀ k, k < d.c.workers → e.wk k = if k = i then att0 else d.wk k) : Phi e < Phi d := by
  obtain ⟨hn, h2, _, hdn, _, _⟩ := h.work i hi (by rw [ht]; exact hn0)
  rw [ht] at hn h2
  have hlen : e.jobs.length = d.jobs.length := by rw [he, set_len]
  have hjob : ∀ m, 1 ≤ m → e.job m = if m = n then j else d.job m := fun m hm => by
    have : e.job m = (d.setJob n j).job m := by unfold DeskM.job; rw [he]
    rw [this, job_set hn hm]
  refine Phi_lt hlen hn ?_ (fun m hm hne => ?_)
  · have hpos := phi_pos h u hn (by omega)
    have hf := u.few n hn
    have hsd : spent d n = (d.wk i).done + 1 := spent_run h hi ht hn0
    have hse : spent e n = 0 := spent_none k.wlen (fun k' hk' htk => by
      rw [hc] at hk'
      rw [hw k' hk'] at htk
      by_cases e1 : k' = i
      · rw [if_pos e1] at htk; exact hn0 htk.symm
      · rw [if_neg e1] at htk
        exact e1 (h.one k' i hk' hi (by rw [htk, ht]) (by rw [htk]; exact hn0)))
    have e2 : phi d n = (d.c.patience + 2 - (d.job n).failed) * (d.c.fuel + 3) - ((d.wk i).done + 1) := by
      unfold phi
      rw [if_pos (by omega), hsd]
    by_cases hs : j.state ≤ 2
    · have hjf : j.failed = (d.job n).failed + 1 := by
        rcases hj with hj | hj
        · omega
        · exact hj
      have e1 : phi e n = (d.c.patience + 2 - ((d.job n).failed + 1)) * (d.c.fuel + 3) := by
        unfold phi
        rw [hjob n hn.1, if_pos rfl, if_pos hs, hc, hse, hjf]; rfl
      rw [e1, e2]
      obtain ⟨q, hq⟩ : ∃ q, d.c.patience + 2 - (d.job n).failed = q + 1 := ⟨d.c.patience + 2 - (d.job n).failed - 1, by omega⟩
      have hq' : d.c.patience + 2 - ((d.job n).failed + 1) = q := by omega
      rw [hq, hq', Nat.succ_mul]
      omega
    · have e1 : phi e n = 0 := by
        unfold phi
        rw [hjob n hn.1, if_pos rfl, if_neg hs]
      omega
  · refine phi_other h k hc (by have := hm.1; omega) (by rw [hjob m hm.1, if_neg hne]; exact ⟨rfl, rfl⟩) (fun k' hk' hor => ?_)
    rw [hw k' hk'] at hor ⊢
    by_cases e1 : k' = i
    · subst e1
      rcases hor with hor | hor
      · rw [if_pos rfl] at hor; have := hm.1; have : (0 : Nat) = m := hor; omega
      · rw [ht] at hor; exact absurd hor.symm hne
    · rw [if_neg e1]
theorem looked_Phi {d : DeskM} (h : DInv d) (u : UInv d) {i : Nat} (hi : i < d.c.workers) (hi0 : (d.wk i).ticket ≠ 0) {x : Mo} (hx : x = play (d.job (d.wk i).ticket).steps (mapF (d.goods.take (d.wk i).beg)) d.c.fuel mo0) {state : Int} (hst : state = endState (d.job (d.wk i).ticket).steps x) : Phi (d.looked i x state).1 < Phi d := by
  have hk := h.looked hi hi0 hx hst
  have hfin : x.fin = 0 ∨ x.fin = 4 ∨ x.fin = 5 := by rw [hx]; exact play_fin _ _ _ _ (Or.inl rfl)
  have hbd : 3 ≤ state ∧ state ≤ 5 := by rw [hst]; exact end_bd hfin
  have hws : ∀ k, k < d.c.workers → (d.workers.set i att0).getD k att0 = if k = i then att0 else d.wk k := fun k _ => wk_set (by rw [h.wlen]; exact hi) att0 k
  have hwi : d.workers.getD i att0 = d.wk i := rfl
  unfold DeskM.looked at hk ⊢
  simp only at hk ⊢
  rw [hwi] at hk ⊢
  obtain ⟨t, ht⟩ : ∃ t : GoodM, t = ⟨(d.wk i).ticket, (d.wk i).beg, x.read, if state = 3 then x.puts else fun _ => none⟩ := ⟨_, rfl⟩
  rw [← ht] at hk ⊢
  split
  · rename_i hp
    rw [if_pos hp] at hk
    unfold DeskM.failedJ at hk ⊢
    simp only at hk ⊢
    have hjj : DeskM.job { d with workers := d.workers.set i att0 } (d.wk i).ticket = d.job (d.wk i).ticket := rfl
    rw [hjj] at hk ⊢
    split
    · rename_i hpat
      rw [if_pos hpat] at hk
      exact stop_Phi h u hk hi rfl hi0 (j := { d.job (d.wk i).ticket with state := 1, failed := (d.job (d.wk i).ticket).failed + 1, urgent := true }) (Or.inr rfl) rfl rfl hws
    · rename_i hpat
      rw [if_neg hpat] at hk
      exact stop_Phi h u hk hi rfl hi0 (j := { d.job (d.wk i).ticket with state := 1, failed := (d.job (d.wk i).ticket).failed + 1 }) (Or.inr rfl) rfl rfl hws
  · rename_i hp
    rw [if_neg hp] at hk
    have hjj : DeskM.job { d with workers := d.workers.set i att0 } (d.wk i).ticket = d.job (d.wk i).ticket := rfl
    rw [hjj] at hk ⊢
    exact stop_Phi h u hk hi rfl hi0 (j := { d.job (d.wk i).ticket with state := state, told := x.told }) (Or.inl (by show 2 < state; omega)) rfl rfl hws
/-- a step is done -/
theorem step_Phi {d : DeskM} (h : DInv d) (u : UInv d) {i : Nat} (hi : i < d.c.workers) (hi0 : (d.wk i).ticket ≠ 0) {a : AttM} (ha : a = { d.wk i with done := (d.wk i).done + 1 }) (k : DInv { d with workers := d.workers.set i a }) : Phi { d with workers := d.workers.set i a } < Phi d := by
  obtain ⟨hn, h2, _, hdn, _, _⟩ := h.work i hi hi0
  obtain ⟨e, he⟩ : ∃ e : DeskM, e = { d with workers := d.workers.set i a } := ⟨_, rfl⟩
  rw [← he] at k ⊢
  have hwk : ∀ k, e.wk k = if k = i then a else d.wk k := fun k => by rw [he]; exact wk_set (by rw [h.wlen]; exact hi) a k
  have hc : e.c = d.c := by rw [he]
  have hjb : ∀ m, e.job m = d.job m := fun m => by rw [he]; rfl
  refine Phi_lt (by rw [he]) hn ?_ (fun m hm hne => ?_)
  · have hf := u.few _ hn
    have hsd := spent_run h hi rfl hi0
    have hse : spent e (d.wk i).ticket = (d.wk i).done + 1 + 1 := by
      rw [spent_run k (i := i) (by rw [hc]; exact hi) (by rw [hwk, if_pos rfl, ha]) hi0, hwk, if_pos rfl, ha]
    unfold phi
    rw [hjb, hc, hse, hsd, if_pos (by omega), if_pos (by omega)]
    have hm := mul_ge (a := d.c.patience + 2 - (d.job (d.wk i).ticket).failed) (b := d.c.fuel + 3) (by omega)
    omega
  · refine phi_other h k hc (by have := hm.1; omega) (by rw [hjb]; exact ⟨rfl, rfl⟩) (fun k' hk' hor => ?_)
    rw [hwk] at hor ⊢
    by_cases e1 : k' = i
    · subst e1
      rw [if_pos rfl, ha] at hor
      rcases hor with hor | hor <;> exact absurd hor.symm hne
    · rw [if_neg e1]
theorem goes_Phi {d : DeskM} (h : DInv d) (u : UInv d) {i : Nat} (hi : i < d.c.workers) (hi0 : (d.wk i).ticket ≠ 0) : Phi (d.goes i).1 < Phi d := by
  have hk := h.goes hi hi0
  obtain ⟨hn, h2, hbeg, hdone, hfin, hdn⟩ := h.work i hi hi0
  have hwi : d.workers.getD i att0 = d.wk i := rfl
  have hax : play (d.job (d.wk i).ticket).steps (mapF (d.goods.take (d.wk i).beg)) (d.wk i).done mo0 = d.aX (d.wk i) := rfl
  have hfull : ∀ k, (d.wk i).done + k = d.c.fuel → play (d.job (d.wk i).ticket).steps (mapF (d.goods.take (d.wk i).beg)) d.c.fuel mo0 = play (d.job (d.wk i).ticket).steps (mapF (d.goods.take (d.wk i).beg)) k (d.aX (d.wk i)) := fun k hk => by rw [← hk, play_add, hax]
  unfold DeskM.goes at hk ⊢
  simp only at hk ⊢
  rw [hwi, hax] at hk ⊢
  split
  · rename_i hpc
    refine looked_Phi h u hi hi0 ?_ ?_
    · rw [hfull (d.c.fuel - (d.wk i).done) (by omega), play_end (fun hh => by omega)]
    · rw [endState, if_pos hfin, if_pos hpc]
  · rename_i hpc
    rw [if_neg hpc] at hk
    split
    · rename_i hfu
      refine looked_Phi h u hi hi0 ?_ ?_
      · rw [hfull 0 (by omega)]; rfl
      · rw [endState, if_pos hfin, if_neg hpc]
    · rename_i hfu
      rw [if_neg hfu] at hk
      split
      · rename_i hyf
        refine looked_Phi h u hi hi0 ?_ ?_
        · have : (d.wk i).done + 1 + (d.c.fuel - ((d.wk i).done + 1)) = d.c.fuel := by omega
          rw [← this, play_add _ _ ((d.wk i).done + 1), play_end (fun hh => hyf hh.1)]
        · rw [endState, if_neg hyf]
      · rename_i hyf
        rw [if_neg hyf] at hk
        exact step_Phi h u hi hi0 rfl hk
/-- a pick takes nothing back; one by a worker that runs an attempt, or that finds a job, brings the desk nearer -/
theorem pick_Phi {d : DeskM} (h : DInv d) (u : UInv d) (i : Int) : Phi (d.pick i).1 ≤ Phi d := by
  unfold DeskM.pick
  split
  · exact Nat.le_refl _
  · rename_i hw
    have hi : i.toNat < d.c.workers := by simp [DeskM.workerB] at hw; omega
    split
    · rename_i h0
      by_cases hn : d.nextJob = 0
      · unfold DeskM.taken
        simp only
        rw [if_pos hn]; exact Nat.le_refl _
      · exact Nat.le_of_lt (taken_Phi h u hi h0 hn)
    · rename_i h0; exact Nat.le_of_lt (goes_Phi h u hi h0)
end Go.Proofs.Ytlbmcdoldnajoab
namespace Go.Proofs.Ytlbmcdoldnajoab
theorem failed_cw (d : DeskM) (n p : Nat) : (d.failedJ n p).1.c = d.c ∧ (d.failedJ n p).1.workers = d.workers := by
  unfold DeskM.failedJ
  simp only
  split <;> exact ⟨rfl, rfl⟩
theorem looked_cw (d : DeskM) (i : Nat) (x : Mo) (s : Int) : (d.looked i x s).1.c = d.c ∧ (d.looked i x s).1.workers = d.workers.set i att0 := by
  unfold DeskM.looked
  simp only
  obtain ⟨t, ht⟩ : ∃ t : GoodM, t = ⟨(d.workers.getD i att0).ticket, (d.workers.getD i att0).beg, x.read, if s = 3 then x.puts else fun _ => none⟩ := ⟨_, rfl⟩
  rw [← ht]
  split
  · exact failed_cw _ _ _
  · exact ⟨rfl, rfl⟩
theorem looked_c (d : DeskM) (i : Nat) (x : Mo) (s : Int) : (d.looked i x s).1.c = d.c := (looked_cw d i x s).1
theorem looked_w (d : DeskM) (i : Nat) (x : Mo) (s : Int) : (d.looked i x s).1.workers = d.workers.set i att0 := (looked_cw d i x s).2
theorem pick_c (d : DeskM) (i : Int) : (d.pick i).1.c = d.c := by
  unfold DeskM.pick
  split
  · rfl
  · split
    · unfold DeskM.taken
      simp only
      split <;> rfl
    · unfold DeskM.goes
      simp only
      split
      · exact looked_c _ _ _ _
      · split
        · exact looked_c _ _ _ _
        · split
          · exact looked_c _ _ _ _
          · rfl
/-- other workers are as they were -/
theorem pick_w (d : DeskM) (i : Int) {k : Nat} (hk : (k : Int) ≠ i) : (d.pick i).1.wk k = d.wk k := by
  unfold DeskM.pick
  split
  · rfl
  · rename_i hw
    have hi : k ≠ i.toNat := by simp [DeskM.workerB] at hw; omega
    have hset : ∀ a, (d.workers.set i.toNat a).getD k att0 = d.wk k := fun a => by
      simp only [DeskM.wk, List.getD]
      rw [List.getElem?_set_ne (fun h => hi h.symm)]
    split
    · unfold DeskM.taken
      simp only
      split
      · rfl
      · exact hset _
    · unfold DeskM.goes
      simp only
      have hl : ∀ x s, (d.looked i.toNat x s).1.wk k = d.wk k := fun x s => by
        show (d.looked i.toNat x s).1.workers.getD k att0 = _
        rw [looked_w]; exact hset _
      split
      · exact hl _ _
      · split
        · exact hl _ _
        · split
          · exact hl _ _
          · exact hset _
/-- the first k workers are picked in turn -/
def roundN (d : DeskM) : Nat → DeskM
  | 0 => d
  | k + 1 => ((roundN d k).pick k).1
theorem round_c (d : DeskM) : ∀ k, (roundN d k).c = d.c
  | 0 => rfl
  | k + 1 => by rw [roundN, pick_c, round_c d k]
theorem round_inv {d : DeskM} (h : DInv d) (u : UInv d) : ∀ k, DInv (roundN d k) ∧ UInv (roundN d k)
  | 0 => ⟨h, u⟩
  | k + 1 => ⟨(round_inv h u k).1.pick k, (round_inv h u k).2.pick (round_inv h u k).1 k⟩
theorem round_w {d : DeskM} : ∀ k i, k ≤ i → (roundN d k).wk i = d.wk i
  | 0, _, _ => rfl
  | k + 1, i, h => by rw [roundN, pick_w _ _ (by omega)]; exact round_w k i (by omega)
theorem round_le {d : DeskM} (h : DInv d) (u : UInv d) : ∀ k j, k ≤ j → Phi (roundN d j) ≤ Phi (roundN d k)
  | k, 0, hk => by
    obtain rfl : k = 0 := by omega
    exact Nat.le_refl _
  | k, j + 1, hk => by
    by_cases e : k = j + 1
    · subst e; exact Nat.le_refl _
    · exact Nat.le_trans (pick_Phi (round_inv h u j).1 (round_inv h u j).2 j) (round_le h u k j (by omega))
/-- where no worker runs an attempt and a job is open, an idle worker finds one -/
theorem next_some {d : DeskM} (h : DInv d) (hid : ∀ i, i < d.c.workers → (d.wk i).ticket = 0) {n : Nat} (hn : d.Has n) (h2 : (d.job n).state ≤ 2) : d.nextJob ≠ 0 := by
  have hno2 : ∀ m, d.Has m → (d.job m).state ≠ 2 := fun m hm e => by
    obtain ⟨i, hi, ht⟩ := h.runs m hm e
    rw [hid i hi] at ht
    have := hm.1; omega
  have hidle : d.idle = true := by
    unfold DeskM.idle
    rw [List.all_eq_true]
    intro j hj
    obtain ⟨k, hk, rfl⟩ := List.getElem_of_mem hj
    have := hno2 (k + 1) ⟨by omega, by omega⟩
    have e : d.job (k + 1) = d.jobs[k] := by simp [DeskM.job, List.getD, hk]
    rw [e] at this
    simpa using this
  have hhead : ∀ {l : List Nat} {m : Nat}, m ∈ l → (∀ x ∈ l, 1 ≤ x) → l.getD 0 0 ≠ 0 := fun {l m} hm hx => by
    cases l with
    | nil => simp at hm
    | cons a r => have := hx a (by simp); simp; omega
  have hone : ∀ m, d.Has m → (d.job m).state ≤ 2 → (d.job m).state = 1 := fun m hm hs => by have := (h.jobs m hm).2.1; have := hno2 m hm; omega
  unfold DeskM.nextJob
  by_cases hh : d.hurry = true
  · rw [if_pos (by rw [hh, hidle]; rfl)]
    unfold DeskM.hurry at hh
    rw [List.any_eq_true] at hh
    obtain ⟨j, hj, hjj⟩ := hh
    obtain ⟨k, hk, rfl⟩ := List.getElem_of_mem hj
    have e : d.job (k + 1) = d.jobs[k] := by simp [DeskM.job, List.getD, hk]
    rw [← e, Bool.and_eq_true] at hjj
    have hm : d.Has (k + 1) := ⟨by omega, by omega⟩
    exact hhead ((h.urM (k + 1)).2 ⟨hm, hone _ hm (by simpa using hjj.2), hjj.1⟩) (fun x hx => ((h.urM x).1 hx).1.1)
  · have hf : d.hurry = false := by simpa using hh
    rw [if_neg (by rw [hf]; simp), if_pos hf]
    have hu : (d.job n).urgent = false := by
      cases e : (d.job n).urgent
      · rfl
      · exact absurd (hurry_yes hn h2 e) hh
    exact hhead ((h.quM n).2 ⟨hn, hone n hn h2, hu⟩) (fun x hx => ((h.quM x).1 hx).1.1)
/-- a round brings the desk nearer to its end, as long as a job is open -/
theorem round_Phi {d : DeskM} (h : DInv d) (u : UInv d) {n : Nat} (hn : d.Has n) (h2 : (d.job n).state ≤ 2) : Phi (roundN d d.c.workers) < Phi d := by
  by_cases hx : ∃ i, i < d.c.workers ∧ (d.wk i).ticket ≠ 0
  · obtain ⟨i, hi, ht⟩ := hx
    obtain ⟨hd, hu⟩ := round_inv h u i
    have hc := round_c d i
    have hw : (roundN d i).wk i = d.wk i := round_w i i (Nat.le_refl _)
    have h1 : Phi (roundN d (i + 1)) < Phi (roundN d i) := by
      rw [roundN]
      unfold DeskM.pick
      have hwb : (roundN d i).workerB (i : Int) = true := by simp [DeskM.workerB, hc]; omega
      rw [if_neg (by rw [hwb]; simp)]
      have ht' : ¬ ((roundN d i).workers.getD (i : Int).toNat att0).ticket = 0 := by
        show ¬ ((roundN d i).wk i).ticket = 0
        rw [hw]; exact ht
      rw [if_neg ht']
      exact goes_Phi hd hu (i := i) (by rw [hc]; exact hi) (by rw [hw]; exact ht)
    have h3 := round_le h u (i + 1) d.c.workers (by omega)
    have h4 := round_le h u 0 i (Nat.zero_le _)
    have h5 : Phi (roundN d 0) = Phi d := rfl
    omega
  · have hid : ∀ i, i < d.c.workers → (d.wk i).ticket = 0 := fun i hi => Classical.byContradiction fun ht => hx ⟨i, hi, ht⟩
    have hw1 : 1 ≤ d.c.workers := h.conf.1.1
    have h1 : Phi (roundN d 1) < Phi d := by
      show Phi (d.pick 0).1 < Phi d
      unfold DeskM.pick
      have hwb : d.workerB 0 = true := by simp [DeskM.workerB]; omega
      have h00 : (d.workers.getD (Int.toNat 0) att0).ticket = 0 := hid 0 (by omega)
      rw [if_neg (by rw [hwb]; simp), if_pos h00]
      exact taken_Phi h u (i := 0) (by omega) (hid 0 (by omega)) (next_some h hid hn h2)
    have h3 := round_le h u 1 d.c.workers hw1
    omega
/-- what all open jobs are worth together -/
theorem phi_le {d : DeskM} (n : Nat) : phi d n ≤ (d.c.patience + 2) * (d.c.fuel + 3) := by
  unfold phi
  split
  · exact Nat.le_trans (Nat.sub_le _ _) (Nat.mul_le_mul_right _ (Nat.sub_le _ _))
  · exact Nat.zero_le _
end Go.Proofs.Ytlbmcdoldnajoab
