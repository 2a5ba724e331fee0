import Derived.Test.YtlbmcdoldnajoaaDeskE

namespace Go.Proofs.Ytlbmcdoldnajoaa
theorem failed_cw (d : DeskM) (n p : Nat) : (d.failedJ n p).1.c = d.c ∧ (d.failedJ n p).1.workers = d.workers := by
  unfold DeskM.failedJ
  simp only
  split <;> exact ⟨rfl, rfl⟩
theorem looked_cw (d : DeskM) (i : Nat) (x : Mo) (s : Int) : (d.looked i x s).1.c = d.c ∧ (d.looked i x s).1.workers = d.workers.set i att0 := by
  unfold DeskM.looked
  simp only
  obtain ⟨t, ht⟩ : ∃ t : GoodM, t = ⟨(d.workers.getD i att0).ticket, (d.workers.getD i att0).beg, x.read, if s = 3 then x.puts else fun _ => none⟩ := ⟨_, rfl⟩
  rw [← ht]
  split
  · exact failed_cw _ _ _
  · exact ⟨rfl, rfl⟩
theorem looked_c (d : DeskM) (i : Nat) (x : Mo) (s : Int) : (d.looked i x s).1.c = d.c := (looked_cw d i x s).1
theorem looked_w (d : DeskM) (i : Nat) (x : Mo) (s : Int) : (d.looked i x s).1.workers = d.workers.set i att0 := (looked_cw d i x s).2
theorem pick_c (d : DeskM) (i : Int) : (d.pick i).1.c = d.c := by
  unfold DeskM.pick
  split
  · rfl
  · split
    · unfold DeskM.taken
      simp only
      split <;> rfl
    · unfold DeskM.goes
      simp only
      split
      · exact looked_c _ _ _ _
      · split
        · exact looked_c _ _ _ _
        · split
          · exact looked_c _ _ _ _
          · rfl
/-- other workers are as they were -/
theorem pick_w (d : DeskM) (i : Int) {k : Nat} (hk : (k : Int) ≠ i) : (d.pick i).1.wk k = d.wk k := by
  unfold DeskM.pick
  split
  · rfl
  · rename_i hw
    have hi : k ≠ i.toNat := by simp [DeskM.workerB] at hw; omega
    have hset : ∀ a, (d.workers.set i.toNat a).getD k att0 = d.wk k := fun a => by
      simp only [DeskM.wk, List.getD]
      rw [List.getElem?_set_ne (fun h => hi h.symm)]
    split
    · unfold DeskM.taken
      simp only
      split
      · rfl
      · exact hset _
    · unfold DeskM.goes
      simp only
      have hl : ∀ x s, (d.looked i.toNat x s).1.wk k = d.wk k := fun x s => by
        show (d.looked i.toNat x s).1.workers.getD k att0 = _
        rw [looked_w]; exact hset _
      split
      · exact hl _ _
      · split
        · exact hl _ _
        · split
          · exact hl _ _
          · exact hset _
/-- the first k workers are picked in turn -/
def roundN (d : DeskM) : Nat → DeskM
  | 0 => d
  | k + 1 => ((roundN d k).pick k).1
theorem round_c (d : DeskM) : ∀ k, (roundN d k).c = d.c
  | 0 => rfl
  | k + 1 => by rw [roundN, pick_c, round_c d k]
theorem round_inv {d : DeskM} (h : DInv d) (u : UInv d) : ∀ k, DInv (roundN d k) ∧ UInv (roundN d k)
  | 0 => ⟨h, u⟩
  | k + 1 => ⟨(round_inv h u k).1.pick k, (round_inv h u k).2.pick (round_inv h u k).1 k⟩
theorem round_w {d : DeskM} : ∀ k i, k ≤ i → (roundN d k).wk i = d.wk i
  | 0, _, _ => rfl
  | k + 1, i, h => by rw [roundN, pick_w _ _ (by omega)]; exact round_w k i (by omega)
theorem round_le {d : DeskM} (h : DInv d) (u : UInv d) : ∀ k j, k ≤ j → Phi (roundN d j) ≤ Phi (roundN d k)
  | k, 0, hk => by
    obtain rfl : k = 0 := by omega
    exact Nat.le_refl _
  | k, j + 1, hk => by
    by_cases e : k = j + 1
    · subst e; exact Nat.le_refl _
    · exact Nat.le_trans (pick_Phi (round_inv h u j).1 (round_inv h u j).2 j) (round_le h u k j (by omega))
/-- where no worker runs an attempt and a job is open, an idle worker finds one -/
theorem next_some {d : DeskM} (h : DInv d) (hid : ∀ i, i < d.c.workers → (d.wk i).ticket = 0) {n : Nat} (hn : d.Has n) (h2 : (d.job n).state ≤ 2) : d.nextJob ≠ 0 := by
  have hno2 : ∀ m, d.Has m → (d.job m).state ≠ 2 := fun m hm e => by
    obtain ⟨i, hi, ht⟩ := h.runs m hm e
    rw [hid i hi] at ht
    have := hm.1; omega
  have hidle : d.idle = true := by
    unfold DeskM.idle
    rw [List.all_eq_true]
    intro j hj
    obtain ⟨k, hk, rfl⟩ := List.getElem_of_mem hj
    have := hno2 (k + 1) ⟨by omega, by omega⟩
    have e : d.job (k + 1) = d.jobs[k] := by simp [DeskM.job, List.getD, hk]
    rw [e] at this
    simpa using this
  have hhead : ∀ {l : List Nat} {m : Nat}, m ∈ l → (∀ x ∈ l, 1 ≤ x) → l.getD 0 0 ≠ 0 := fun {l m} hm hx => by
    cases l with
    | nil => simp at hm
    | cons a r => have := hx a (by simp); simp; omega
  have hone : ∀ m, d.Has m → (d.job m).state ≤ 2 → (d.job m).state = 1 := fun m hm hs => by have := (h.jobs m hm).2.1; have := hno2 m hm; omega
  unfold DeskM.nextJob
  by_cases hh : d.hurry = true
  · rw [if_pos (by rw [hh, hidle]; rfl)]
    unfold DeskM.hurry at hh
    rw [List.any_eq_true] at hh
    obtain ⟨j, hj, hjj⟩ := hh
    obtain ⟨k, hk, rfl⟩ := List.getElem_of_mem hj
    have e : d.job (k + 1) = d.jobs[k] := by simp [DeskM.job, List.getD, hk]
    rw [← e, Bool.and_eq_true] at hjj
    have hm : d.Has (k + 1) := ⟨by omega, by omega⟩
    exact hhead ((h.urM (k + 1)).2 ⟨hm, hone _ hm (by simpa using hjj.2), hjj.1⟩) (fun x hx => ((h.urM x).1 hx).1.1)
  · have hf : d.hurry = false := by simpa using hh
    rw [if_neg (by rw [hf]; simp), if_pos hf]
    have hu : (d.job n).urgent = false := by
      cases e : (d.job n).urgent
      · rfl
      · exact absurd (hurry_yes hn h2 e) hh
    exact hhead ((h.quM n).2 ⟨hn, hone n hn h2, hu⟩) (fun x hx => ((h.quM x).1 hx).1.1)
/-- a round brings the desk nearer to its end, as long as a job is open -/
theorem round_Phi {d : DeskM} (h : DInv d) (u : UInv d) {n : Nat} (hn : d.Has n) (h2 : (d.job n).state ≤ 2) : Phi (roundN d d.c.workers) < Phi d := by
  by_cases hx : ∃ i, i < d.c.workers ∧ (d.wk i).ticket ≠ 0
  · obtain ⟨i, hi, ht⟩ := hx
    obtain ⟨hd, hu⟩ := round_inv h u i
    have hc := round_c d i
    have hw : (roundN d i).wk i = d.wk i := round_w i i (Nat.le_refl _)
    have h1 : Phi (roundN d (i + 1)) < Phi (roundN d i) := by
      rw [roundN]
      unfold DeskM.pick
      have hwb : (roundN d i).workerB (i : Int) = true := by simp [DeskM.workerB, hc]; omega
      rw [if_neg (by rw [hwb]; simp)]
      have ht' : ¬ ((roundN d i).workers.getD (i : Int).toNat att0).ticket = 0 := by
        show ¬ ((roundN d i).wk i).ticket = 0
        rw [hw]; exact ht
      rw [if_neg ht']
      exact goes_Phi hd hu (i := i) (by rw [hc]; exact hi) (by rw [hw]; exact ht)
    have h3 := round_le h u (i + 1) d.c.workers (by omega)
    have h4 := round_le h u 0 i (Nat.zero_le _)
    have h5 : Phi (roundN d 0) = Phi d := rfl
    omega
  · have hid : ∀ i, i < d.c.workers → (d.wk i).ticket = 0 := fun i hi => Classical.byContradiction fun ht => hx ⟨i, hi, ht⟩
    have hw1 : 1 ≤ d.c.workers := h.conf.1.1
    have h1 : Phi (roundN d 1) < Phi d := by
      show Phi (d.pick 0).1 < Phi d
      unfold DeskM.pick
      have hwb : d.workerB 0 = true := by simp [DeskM.workerB]; omega
      have h00 : (d.workers.getD (Int.toNat 0) att0).ticket = 0 := hid 0 (by omega)
      rw [if_neg (by rw [hwb]; simp), if_pos h00]
      exact taken_Phi h u (i := 0) (by omega) (hid 0 (by omega)) (next_some h hid hn h2)
    have h3 := round_le h u 1 d.c.workers hw1
    omega
/-- what all open jobs are worth together -/
theorem phi_le {d : DeskM} (n : Nat) : phi d n ≤ (d.c.patience + 2) * (d.c.fuel + 3) := by
  unfold phi
  split
  · exact Nat.le_trans (Nat.sub_le _ _) (Nat.mul_le_mul_right _ (Nat.sub_le _ _))
  · exact Nat.zero_le _
end Go.Proofs.Ytlbmcdoldnajoaa
