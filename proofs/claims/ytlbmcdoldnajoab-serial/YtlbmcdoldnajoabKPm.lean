import Derived.Test.YtlbmcdoldnajoabKPl

namespace Go.Proofs.Ytlbmcdoldnajoab
/-- how many of the first j were cancelled; how many of the first j workers run -/
def goneN (l : List TK) (j : Nat) : Nat := ((l.take j).filter (·.gone)).length
def runN (l : List Nat) (j : Nat) : Nat := ((l.take j).filter fun n => decide (n ≠ 0)).length
theorem goneN_le (l : List TK) (j : Nat) : goneN l j ≤ j := by
  have h1 := List.length_filter_le (·.gone) (l.take j)
  have h2 : (l.take j).length ≤ j := by simp; omega
  unfold goneN; omega
theorem runN_le (l : List Nat) (j : Nat) : runN l j ≤ j := by
  have h1 := List.length_filter_le (fun n => decide (n ≠ 0)) (l.take j)
  have h2 : (l.take j).length ≤ j := by simp; omega
  unfold runN; omega
theorem goneN_succ (l : List TK) {j : Nat} (hj : j < l.length) : goneN l (j + 1) = goneN l j + if (l.getD j tk0).gone = true then 1 else 0 := by
  unfold goneN
  have e : l.getD j tk0 = l[j] := by simp [List.getD, hj]
  rw [List.take_succ_eq_append_getElem hj, List.filter_append, List.length_append, e]
  cases h : l[j].gone <;> simp [h]
theorem runN_succ (l : List Nat) {j : Nat} (hj : j < l.length) : runN l (j + 1) = runN l j + if l.getD j 0 ≠ 0 then 1 else 0 := by
  unfold runN
  have e : l.getD j 0 = l[j] := by simp [List.getD, hj]
  rw [List.take_succ_eq_append_getElem hj, List.filter_append, List.length_append, e]
  by_cases h : l[j] = 0
  · simp [h]
  · simp [h]
def RM.openI (R : RM) : Int := (R.tasks.length : Int) - R.order.length - goneN R.tasks R.tasks.length
def RM.waitI (R : RM) : Int := R.openI - runN R.at_ R.at_.length
def RM.doneB (R : RM) (n : Nat) : Bool := (R.tk n).gone || R.order.any fun k => decide (k = n)
def RM.hurryB (R : RM) (j : Nat) : Bool := (List.range j).any fun m => !R.doneB (m + 1) && decide (R.c.patience < (R.tk (m + 1)).fails)
def RM.idleB (R : RM) (j : Nat) : Bool := (List.range j).all fun m => decide (R.at_.getD m 0 = 0)
def RM.takesB (R : RM) : Bool := decide (0 < R.waitI) && (R.idleB R.at_.length || !R.hurryB R.tasks.length)
theorem filt_map {α : Type} (p : α → Bool) : ∀ l : List α, (l.filter p).length = ((l.map p).filter id).length
  | [] => rfl
  | a :: r => by
    have ih := filt_map p r
    cases h : p a
    · rw [List.filter_cons, List.map_cons, List.filter_cons, h]; exact ih
    · rw [List.filter_cons, List.map_cons, List.filter_cons, h]
      simp only [id, if_true, List.length_cons, ih]
theorem gone_cnt {R : RM} (h : KInv R) : goneN R.tasks R.tasks.length = (R.d.jobs.filter fun j => decide (j.state = 6)).length := by
  unfold goneN
  rw [List.take_length, filt_map, filt_map (fun j : JobM => decide (j.state = 6))]
  congr 2
  refine List.ext_getElem (by simp [h.len]) (fun k h1 h2 => ?_)
  simp only [List.length_map] at h1 h2
  have hg := h.gone (k + 1) ⟨by omega, by omega⟩
  simp only [List.getElem_map]
  simpa [RM.tk, DeskM.job, List.getD, h1, h2] using hg
theorem goods_map (gs : List GoodM) : gs.map (·.ticket) = (List.range gs.length).map fun i => (gAt gs i).ticket := by
  refine List.ext_getElem (by simp) (fun k h1 h2 => ?_)
  simp only [List.length_map] at h1
  simp [gAt, List.getD, h1]
theorem goods_nodup {d : DeskM} (h : DInv d) : (d.goods.map (·.ticket)).Nodup := by
  rw [goods_map, List.Nodup, List.pairwise_map]
  refine (List.nodup_range (n := d.goods.length)).imp_of_mem fun {a b} ha hb hne e => hne ?_
  exact h.g.gone a b (List.mem_range.1 ha) (List.mem_range.1 hb) e
theorem goods_over {d : DeskM} (h : DInv d) {i : Nat} (hi : i < d.goods.length) : DeskM.Over (d.job (gAt d.goods i).ticket) := by
  have := (h.g.gjob i hi).2.1
  unfold DeskM.Over
  rw [this]
  exact end_bd (play_fin _ _ _ _ (Or.inl rfl))
theorem goods_mem {d : DeskM} (h : DInv d) (n : Nat) : n ∈ d.goods.map (·.ticket) ↔ d.Has n ∧ DeskM.Over (d.job n) := by
  rw [goods_map, List.mem_map]
  constructor
  · rintro ⟨i, hi, rfl⟩
    have hi := List.mem_range.1 hi
    exact ⟨(h.g.gjob i hi).1, goods_over h hi⟩
  · rintro ⟨h1, h2⟩
    obtain ⟨i, hi, e⟩ := h.g.gall n h1 h2
    exact ⟨i, List.mem_range.2 hi, e⟩
theorem over_cnt {d : DeskM} (h : DInv d) : d.goods.length = (d.jobs.filter fun j => decide (3 ≤ j.state ∧ j.state ≤ 5)).length := by
  have hp : (d.goods.map (·.ticket)).Perm (numsOf d fun j => decide (3 ≤ j.state ∧ j.state ≤ 5)) := by
    refine (List.perm_ext_iff_of_nodup (goods_nodup h) (nums_nodup _ _)).2 fun n => ?_
    rw [goods_mem h, nums_mem]
    simp [DeskM.Over]
  have := hp.length_eq
  rw [nums_len, List.length_map] at this
  exact this
theorem tickets_nodup {d : DeskM} (h : DInv d) : ((d.workers.map (·.ticket)).filter fun n => decide (n ≠ 0)).Nodup := by
  have e : d.workers.map (·.ticket) = (List.range d.workers.length).map fun i => (d.wk i).ticket := by
    refine List.ext_getElem (by simp) (fun k h1 h2 => ?_)
    simp only [List.length_map] at h1
    simp [DeskM.wk, List.getD, h1]
  rw [List.Nodup, List.pairwise_filter, e, List.pairwise_map]
  refine (List.nodup_range (n := d.workers.length)).imp_of_mem fun {a b} ha hb hne h1 h2 e => hne ?_
  have ha := List.mem_range.1 ha
  have hb := List.mem_range.1 hb
  rw [h.wlen] at ha hb
  exact h.one a b ha hb e (of_decide_eq_true h1)
theorem run_cnt {d : DeskM} (h : DInv d) : runN (d.workers.map (·.ticket)) (d.workers.map (·.ticket)).length = (d.jobs.filter fun j => decide (j.state = 2)).length := by
  have hp : ((d.workers.map (·.ticket)).filter fun n => decide (n ≠ 0)).Perm (numsOf d fun j => decide (j.state = 2)) := by
    refine (List.perm_ext_iff_of_nodup (tickets_nodup h) (nums_nodup _ _)).2 fun n => ?_
    rw [List.mem_filter, List.mem_map, nums_mem]
    constructor
    · rintro ⟨⟨a, ha, rfl⟩, h0⟩
      obtain ⟨i, hi, rfl⟩ := wk_mem h.wlen ha
      have := h.work i hi (of_decide_eq_true h0)
      exact ⟨this.1, decide_eq_true this.2.1⟩
    · rintro ⟨h1, h2⟩
      obtain ⟨i, hi, e⟩ := h.runs n h1 (of_decide_eq_true h2)
      have := h1.1
      exact ⟨⟨d.wk i, wk_in h.wlen hi, e⟩, decide_eq_true (by omega)⟩
  have := hp.length_eq
  rw [nums_len] at this
  unfold runN
  rw [List.take_length]
  exact this
theorem split4 : ∀ l : List JobM, (∀ j ∈ l, 1 ≤ j.state ∧ j.state ≤ 6) →
    l.length = (l.filter fun j => decide (j.state ≤ 2)).length + (l.filter fun j => decide (3 ≤ j.state ∧ j.state ≤ 5)).length + (l.filter fun j => decide (j.state = 6)).length ∧
    (l.filter fun j => decide (j.state ≤ 2)).length = (l.filter fun j => decide (j.state = 1)).length + (l.filter fun j => decide (j.state = 2)).length
  | [], _ => ⟨rfl, rfl⟩
  | a :: r, h => by
    obtain ⟨i1, i2⟩ := split4 r (fun j hj => h j (by simp [hj]))
    obtain ⟨h1, h2⟩ := h a (by simp)
    simp only [List.filter_cons, List.length_cons]
    have hc : a.state = 1 ∨ a.state = 2 ∨ (3 ≤ a.state ∧ a.state ≤ 5) ∨ a.state = 6 := by omega
    rcases hc with e | e | e | e
    · have e1 : decide (a.state ≤ 2) = true := decide_eq_true (by omega)
      have e2 : decide (3 ≤ a.state ∧ a.state ≤ 5) = false := decide_eq_false (by omega)
      have e3 : decide (a.state = 6) = false := decide_eq_false (by omega)
      have e4 : decide (a.state = 1) = true := decide_eq_true (by omega)
      have e5 : decide (a.state = 2) = false := decide_eq_false (by omega)
      simp only [e1, e2, e3, e4, e5, if_true, Bool.false_eq_true, if_false, List.length_cons]
      omega
    · have e1 : decide (a.state ≤ 2) = true := decide_eq_true (by omega)
      have e2 : decide (3 ≤ a.state ∧ a.state ≤ 5) = false := decide_eq_false (by omega)
      have e3 : decide (a.state = 6) = false := decide_eq_false (by omega)
      have e4 : decide (a.state = 1) = false := decide_eq_false (by omega)
      have e5 : decide (a.state = 2) = true := decide_eq_true (by omega)
      simp only [e1, e2, e3, e4, e5, if_true, Bool.false_eq_true, if_false, List.length_cons]
      omega
    · have e1 : decide (a.state ≤ 2) = false := decide_eq_false (by omega)
      have e2 : decide (3 ≤ a.state ∧ a.state ≤ 5) = true := decide_eq_true (by omega)
      have e3 : decide (a.state = 6) = false := decide_eq_false (by omega)
      have e4 : decide (a.state = 1) = false := decide_eq_false (by omega)
      have e5 : decide (a.state = 2) = false := decide_eq_false (by omega)
      simp only [e1, e2, e3, e4, e5, if_true, Bool.false_eq_true, if_false, List.length_cons]
      omega
    · have e1 : decide (a.state ≤ 2) = false := decide_eq_false (by omega)
      have e2 : decide (3 ≤ a.state ∧ a.state ≤ 5) = false := decide_eq_false (by omega)
      have e3 : decide (a.state = 6) = true := decide_eq_true (by omega)
      have e4 : decide (a.state = 1) = false := decide_eq_false (by omega)
      have e5 : decide (a.state = 2) = false := decide_eq_false (by omega)
      simp only [e1, e2, e3, e4, e5, if_true, Bool.false_eq_true, if_false, List.length_cons]
      omega
def openN (d : DeskM) : Nat := (d.jobs.filter fun j => decide (j.state ≤ 2)).length
theorem states {d : DeskM} (h : DInv d) : ∀ j ∈ d.jobs, 1 ≤ j.state ∧ j.state ≤ 6 := fun j hj => by
  obtain ⟨n, hn, rfl⟩ := job_num hj
  exact (h.jobs n hn).2
theorem open_eq {R : RM} (h : KInv R) : R.openI = (openN R.d : Int) := by
  have h1 := gone_cnt h
  have h2 := over_cnt h.inv
  have h3 := (split4 R.d.jobs (states h.inv)).1
  have h4 : R.order.length = R.d.goods.length := by rw [h.order, List.length_map]
  have h5 := h.len
  unfold RM.openI openN
  rw [h1, h4, h2, h5]
  omega
theorem wait_eq {R : RM} (h : KInv R) : R.waitI = (R.d.waiting : Int) := by
  have h1 := open_eq h
  have h2 := run_cnt h.inv
  have h3 := (split4 R.d.jobs (states h.inv)).2
  unfold RM.waitI
  rw [h1, h.at_, h2]
  unfold openN DeskM.waiting
  omega
theorem done_eq {R : RM} (h : KInv R) {n : Nat} (hn : R.d.Has n) : R.doneB n = decide (2 < (R.d.job n).state) := by
  unfold RM.doneB
  rw [h.gone n hn]
  have hs := (h.inv.jobs n hn).2
  have hm : (R.order.any fun k => decide (k = n)) = decide (3 ≤ (R.d.job n).state ∧ (R.d.job n).state ≤ 5) := by
    rw [Bool.eq_iff_iff, List.any_eq_true, decide_eq_true_iff, h.order]
    constructor
    · rintro ⟨k, hk, e⟩
      rw [← of_decide_eq_true e]
      exact ((goods_mem h.inv k).1 hk).2
    · intro ho
      exact ⟨n, (goods_mem h.inv n).2 ⟨hn, ho⟩, decide_eq_true rfl⟩
  rw [hm, Bool.eq_iff_iff]
  simp only [Bool.or_eq_true, decide_eq_true_iff]
  omega
theorem idle_eq {R : RM} (h : KInv R) : R.idleB R.at_.length = R.d.idle := by
  unfold RM.idleB DeskM.idle
  rw [Bool.eq_iff_iff, List.all_eq_true, List.all_eq_true]
  have hl : R.at_.length = R.d.c.workers := by rw [h.at_, List.length_map, h.inv.wlen]
  have hg : ∀ m, m < R.d.c.workers → R.at_.getD m 0 = (R.d.wk m).ticket := fun m hm => by
    rw [← h.inv.wlen] at hm
    rw [h.at_]
    simp [DeskM.wk, List.getD, hm]
  constructor
  · intro ha j hj
    obtain ⟨n, hn, rfl⟩ := job_num hj
    refine decide_eq_true fun h2 => ?_
    obtain ⟨i, hi, e⟩ := h.inv.runs n hn h2
    have := of_decide_eq_true (ha i (List.mem_range.2 (by rw [hl]; exact hi)))
    rw [hg i hi, e] at this
    have := hn.1
    omega
  · intro ha m hm
    have hm : m < R.d.c.workers := by rw [← hl]; exact List.mem_range.1 hm
    refine decide_eq_true ?_
    rw [hg m hm]
    refine Classical.byContradiction fun h0 => ?_
    have hw := h.inv.work m hm h0
    exact of_decide_eq_true (ha _ (job_mem hw.1)) hw.2.1
theorem hurry_eq {R : RM} (h : KInv R) : R.hurryB R.tasks.length = R.d.hurry := by
  unfold RM.hurryB DeskM.hurry
  rw [Bool.eq_iff_iff, List.any_eq_true, List.any_eq_true]
  have hkey : ∀ n, R.d.Has n → ((!R.doneB n && decide (R.c.patience < (R.tk n).fails)) = true ↔ ((R.d.job n).urgent && decide ((R.d.job n).state ≤ 2)) = true) := fun n hn => by
    rw [done_eq h hn, h.fails n hn, h.conf]
    simp only [Bool.and_eq_true, Bool.not_eq_true', decide_eq_true_iff, decide_eq_false_iff_not]
    constructor
    · rintro ⟨h1, h2⟩
      refine ⟨?_, by omega⟩
      cases hu : (R.d.job n).urgent with
      | true => rfl
      | false => have := h.urg.calm n hn hu; omega
    · rintro ⟨h1, h2⟩
      exact ⟨by omega, h.inv.hurt n hn h1⟩
  constructor
  · rintro ⟨m, hm, hc⟩
    have hn : R.d.Has (m + 1) := ⟨by omega, by have := List.mem_range.1 hm; have := h.len; omega⟩
    exact ⟨_, job_mem hn, (hkey _ hn).1 hc⟩
  · rintro ⟨j, hj, hc⟩
    obtain ⟨n, hn, rfl⟩ := job_num hj
    have h1 := hn.1
    have h2 := hn.2
    refine ⟨n - 1, List.mem_range.2 (by rw [h.len]; omega), ?_⟩
    rw [show n - 1 + 1 = n by omega]
    exact (hkey n hn).2 hc
theorem takes_eq {R : RM} (h : KInv R) : R.takesB = decide (R.d.nextJob ≠ 0) := by
  unfold RM.takesB
  rw [wait_eq h, idle_eq h, hurry_eq h]
  have hw := waitingD_eq h.inv
  have hqn : ∀ {l : List Nat}, (∀ n ∈ l, 1 ≤ n) → (l.getD 0 0 ≠ 0 ↔ 0 < l.length) := fun {l} hl => by
    cases l with
    | nil => simp
    | cons a r => have := hl a (by simp); simp; omega
  have hq1 := hqn (l := R.d.queue) fun n hn => ((h.inv.quM n).1 hn).1.1
  have hu1 := hqn (l := R.d.urgent) fun n hn => ((h.inv.urM n).1 hn).1.1
  have hul : R.d.hurry = false → R.d.urgent.length = 0 := fun hh => by
    refine Classical.byContradiction fun h0 => ?_
    cases hu : R.d.urgent with
    | nil => rw [hu] at h0; exact h0 rfl
    | cons n r =>
      have hn := (h.inv.urM n).1 (by rw [hu]; simp)
      rw [hurry_yes hn.1 (by omega) hn.2.2] at hh
      cases hh
  have hui : R.d.hurry = true → R.d.idle = true → 0 < R.d.urgent.length := fun hh hi => by
    unfold DeskM.hurry at hh
    obtain ⟨j, hj, hc⟩ := List.any_eq_true.1 hh
    obtain ⟨n, hn, rfl⟩ := job_num hj
    rw [Bool.and_eq_true] at hc
    have h2 := of_decide_eq_true hc.2
    have h1 := (h.inv.jobs n hn).2.1
    have hne : (R.d.job n).state ≠ 2 := fun e => by rw [idle_no hn e] at hi; cases hi
    have := (h.inv.urM n).2 ⟨hn, by omega, hc.1⟩
    exact List.length_pos_of_mem this
  unfold DeskM.nextJob
  cases hh : R.d.hurry
  · have := hul hh
    simp only [Bool.false_and, Bool.false_eq_true, if_false, if_true, Bool.not_false, Bool.or_true, Bool.and_true]
    rw [Bool.eq_iff_iff, decide_eq_true_iff, decide_eq_true_iff, hq1]
    omega
  · cases hi : R.d.idle
    · simp
    · have := hui hh hi
      simp only [Bool.and_self, if_true, Bool.true_or, Bool.and_true]
      rw [Bool.eq_iff_iff, decide_eq_true_iff, decide_eq_true_iff, hu1]
      omega
/-- of no great size -/
structure KOk (N : Nat) (R : RM) : Prop where
  k : KInv R
  len : R.tasks.length ≤ N
  kills : ∀ n, (R.tk n).kills ≤ N
theorem KOk.mono {N M : Nat} {R : RM} (h : KOk N R) (hm : N ≤ M) : KOk M R := ⟨h.k, Nat.le_trans h.len hm, fun n => Nat.le_trans (h.kills n) hm⟩
theorem KOk.bd {N : Nat} {R : RM} (h : KOk N R) (hN : N ≤ 900000000) : Bd 999999990 R.d := by
  refine ⟨by rw [← h.k.len]; have := h.len; omega, fun j hj => ?_⟩
  obtain ⟨n, hn, rfl⟩ := job_num hj
  have h1 := h.k.tries n hn
  have h2 := h.k.urg.few n hn
  have h3 := h.k.fails n hn
  have h4 := h.kills n
  have h5 := h.k.inv.conf
  split at h1 <;> omega
theorem set_kills {R : RM} {N i : Nat} {t : TK} (h : ∀ n, (R.tk n).kills ≤ N) (ht : t.kills ≤ N) (n : Nat) : ((R.tasks.set i t).getD (n - 1) tk0).kills ≤ N := by
  simp only [List.getD, List.getElem?_set]
  have := h n
  simp only [RM.tk, List.getD] at this
  split
  · split
    · exact ht
    · exact Nat.zero_le _
  · exact this
theorem KOk.pick {N : Nat} {R : RM} (h : KOk N R) {i : Nat} (hi : i < R.d.c.workers) : KOk N (R.pickR i) := by
  refine ⟨h.k.pick hi, ?_, ?_⟩
  · unfold RM.pickR RM.pickN
    split
    · exact h.len
    · split
      · exact h.len
      · split
        · simp only [List.length_set]; exact h.len
        · exact h.len
  · unfold RM.pickR RM.pickN
    split
    · exact h.kills
    · split
      · exact h.kills
      · split
        · exact set_kills h.kills (h.kills _)
        · exact h.kills
theorem KOk.say {N : Nat} {R : RM} (h : KOk N R) {l : List St} (hl : jobB l = true) : KOk (N + 1) (R.sayR l) := by
  refine ⟨h.k.say hl, ?_, ?_⟩
  · unfold RM.sayR
    split
    · exact Nat.le_succ_of_le h.len
    · simp only [List.length_append, List.length_cons, List.length_nil]; have := h.len; omega
  · unfold RM.sayR
    split
    · exact fun n => Nat.le_succ_of_le (h.kills n)
    · intro n
      have := h.kills n
      simp only [RM.tk, List.getD] at this ⊢
      rw [List.getElem?_append]
      split
      · omega
      · rw [List.getElem?_singleton]
        split
        · exact Nat.zero_le _
        · exact Nat.zero_le _
theorem KOk.kill {N : Nat} {R : RM} (h : KOk N R) {i : Nat} (hi : i < R.d.c.workers) : KOk (N + 1) (R.killR i) := by
  refine ⟨h.k.kill hi, ?_, ?_⟩
  · unfold RM.killR
    simp only
    split
    · exact Nat.le_succ_of_le h.len
    · simp only [List.length_set]; exact Nat.le_succ_of_le h.len
  · unfold RM.killR
    simp only
    split
    · exact fun n => Nat.le_succ_of_le (h.kills n)
    · exact set_kills (N := N + 1) (fun n => Nat.le_succ_of_le (h.kills n)) (Nat.succ_le_succ (h.kills _))
theorem KOk.cancel {N : Nat} {R : RM} (h : KOk N R) {n : Nat} (hn : R.d.Has n) : KOk N (R.cancelR n) := by
  refine ⟨h.k.cancel hn, ?_, ?_⟩
  · unfold RM.cancelR
    split
    · exact h.len
    · simp only [List.length_set]; exact h.len
  · unfold RM.cancelR
    split
    · exact h.kills
    · exact set_kills h.kills (h.kills _)
theorem pickR_d (R : RM) (i : Nat) : (R.pickR i).d = (R.d.pick i).1 := by
  unfold RM.pickR RM.pickN
  split
  · rfl
  · split
    · rfl
    · split <;> rfl
/-- the first k workers are picked in turn -/
def RM.roundR (R : RM) : Nat → RM
  | 0 => R
  | k + 1 => (R.roundR k).pickR k
theorem roundR_d (R : RM) : ∀ k, (R.roundR k).d = roundN R.d k
  | 0 => rfl
  | k + 1 => by rw [RM.roundR, roundN, pickR_d, roundR_d R k]
theorem open_pos {d : DeskM} (h : 0 < openN d) : ∃ n, d.Has n ∧ (d.job n).state ≤ 2 := by
  unfold openN at h
  obtain ⟨j, hj⟩ := List.exists_mem_of_length_pos h
  have hj := List.mem_filter.1 hj
  obtain ⟨n, hn, rfl⟩ := job_num hj.1
  exact ⟨n, hn, of_decide_eq_true hj.2⟩
theorem phi_zero {d : DeskM} (h : DInv d) (u : UInv d) (hz : Phi d = 0) : openN d = 0 := by
  refine Classical.byContradiction fun hc => ?_
  obtain ⟨n, hn, h2⟩ := open_pos (d := d) (by omega)
  have h1 := phi_pos h u hn h2
  have : ∀ k, n ≤ k → 1 ≤ tot (phi d) k := fun k hk => by
    induction k with
    | zero => have := hn.1; omega
    | succ k ih =>
      rw [tot]
      by_cases e : n = k + 1
      · rw [← e]; omega
      · have := ih (by omega); omega
  have := this d.jobs.length hn.2
  unfold Phi at hz
  omega
theorem tot_cnt {d : DeskM} {c : Nat} {f : Nat → Nat} (hf : ∀ n, d.Has n → f n ≤ if (d.job n).state ≤ 2 then c else 0) : tot f d.jobs.length ≤ openN d * c := by
  have key : ∀ k, k ≤ d.jobs.length → tot f k ≤ ((d.jobs.take k).filter fun j => decide (j.state ≤ 2)).length * c := fun k => by
    induction k with
    | zero => intro _; simp [tot]
    | succ k ih =>
      intro hk
      have h1 := ih (by omega)
      have h2 := hf (k + 1) ⟨by omega, hk⟩
      have hj : d.job (k + 1) = d.jobs[k] := by simp [DeskM.job, List.getD, show k < d.jobs.length by omega]
      rw [tot, List.take_succ_eq_append_getElem (by omega), List.filter_append, List.length_append, Nat.add_mul]
      rw [hj] at h2
      by_cases e : (d.jobs[k]).state ≤ 2
      · rw [if_pos e] at h2; simp [e]; omega
      · rw [if_neg e] at h2; omega
  have := key d.jobs.length (Nat.le_refl _)
  rw [List.take_length] at this
  exact this
theorem phi_bound (d : DeskM) : Phi d ≤ openN d * ((d.c.patience + 2) * (d.c.fuel + 3)) := by
  unfold Phi
  refine tot_cnt fun n _ => ?_
  by_cases e : (d.job n).state ≤ 2
  · rw [if_pos e]; exact phi_le n
  · rw [if_neg e]; unfold phi; rw [if_neg e]; exact Nat.le_refl _
end Go.Proofs.Ytlbmcdoldnajoab
