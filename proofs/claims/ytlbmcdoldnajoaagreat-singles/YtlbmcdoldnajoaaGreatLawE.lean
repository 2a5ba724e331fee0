import Derived.Test.YtlbmcdoldnajoaaGreatProgV
import Derived.Test.YtlbmcdoldnajoaaGreatPFunM
import Derived.Test.YtlbmcdoldnajoaaGreatLawD
set_option maxRecDepth 100000
set_option maxHeartbeats 400000
namespace Go.Proofs.YtlbmcdoldnajoaaGreat
theorem job_num {d : DeskM} {j : JobM} (hj : j ∈ d.jobs) : ∃ n, d.Has n ∧ d.job n = j := by
  obtain ⟨k, hk, e⟩ := List.getElem_of_mem hj
  exact ⟨k + 1, ⟨by omega, by omega⟩, by simp [DeskM.job, List.getD, hk, e]⟩
def numsOf (d : DeskM) (p : JobM → Bool) : List Nat := ((List.range d.jobs.length).map (· + 1)).filter fun n => p (d.job n)
theorem nums_mem {d : DeskM} {p : JobM → Bool} {n : Nat} : n ∈ numsOf d p ↔ d.Has n ∧ p (d.job n) = true := by
  unfold numsOf
  rw [List.mem_filter, List.mem_map]
  constructor
  · rintro ⟨⟨k, hk, rfl⟩, h⟩
    have := List.mem_range.1 hk
    exact ⟨⟨by omega, by omega⟩, h⟩
  · rintro ⟨⟨h1, h2⟩, h⟩
    exact ⟨⟨n - 1, List.mem_range.2 (by omega), by omega⟩, h⟩
theorem nums_nodup (d : DeskM) (p : JobM → Bool) : (numsOf d p).Nodup := by
  unfold numsOf
  refine List.Pairwise.filter _ ?_
  rw [List.pairwise_map]
  exact (List.nodup_range (n := d.jobs.length)).imp fun {a b} h => by omega
theorem nums_len (d : DeskM) (p : JobM → Bool) : (numsOf d p).length = (d.jobs.filter p).length := by
  unfold numsOf
  have e : d.jobs = (List.range d.jobs.length).map fun k => d.job (k + 1) := by
    refine List.ext_getElem (by simp) (fun k h1 h2 => ?_)
    rw [List.getElem_map, List.getElem_range]
    simp [DeskM.job, List.getD, h1]
  have : ∀ l : List Nat, ((l.map (· + 1)).filter fun n => p (d.job n)).length = ((l.map fun k => d.job (k + 1)).filter p).length := fun l => by
    induction l with
    | nil => rfl
    | cons a r ih =>
      rw [List.map_cons, List.map_cons, List.filter_cons, List.filter_cons]
      split
      · rw [List.length_cons, List.length_cons, ih]
      · exact ih
  rw [this, ← e]
theorem waitingD_eq {d : DeskM} (h : DInv d) : d.waiting = d.queue.length + d.urgent.length := by
  have hp : (numsOf d fun j => decide (j.state = 1)).Perm (d.queue ++ d.urgent) := by
    refine (List.perm_ext_iff_of_nodup (nums_nodup _ _) ?_).2 fun n => ?_
    · rw [List.nodup_append]
      refine ⟨h.quD, h.urD, fun a ha b hb e => ?_⟩
      subst e
      have h1 := ((h.quM a).1 ha).2.2
      rw [((h.urM a).1 hb).2.2] at h1
      cases h1
    · rw [nums_mem, List.mem_append, h.quM, h.urM]
      constructor
      · rintro ⟨h1, h2⟩
        have h2' := of_decide_eq_true h2
        cases hu : (d.job n).urgent
        · exact Or.inl ⟨h1, h2', rfl⟩
        · exact Or.inr ⟨h1, h2', rfl⟩
      · rintro (⟨h1, h2, _⟩ | ⟨h1, h2, _⟩)
        · exact ⟨h1, decide_eq_true h2⟩
        · exact ⟨h1, decide_eq_true h2⟩
  have hl := hp.length_eq
  rw [nums_len, List.length_append] at hl
  exact hl
theorem po_waiting {d : DeskM} (h : DInv d) : (progOf d).waiting = d.waiting := by
  rw [waitingD_eq h]
  show d.queue.length + ((runU d ++ d.urgent).filter fun n => decide (((progOf d).task n).state = 1)).length = _
  rw [List.filter_append]
  have h1 : (runU d).filter (fun n => decide (((progOf d).task n).state = 1)) = [] := by
    rw [List.filter_eq_nil_iff]
    intro n hn
    unfold runU at hn
    obtain ⟨a, ha, rfl⟩ := List.mem_map.1 hn
    have ha' := List.mem_filter.1 ha
    obtain ⟨i, hi, rfl⟩ := wk_at ha'.1
    have hp := ha'.2
    rw [Bool.and_eq_true] at hp
    have hk := h.work i (by rw [← h.wlen]; exact hi) (of_decide_eq_true hp.1)
    rw [po_task]
    show ¬ decide ((d.job (d.wk i).ticket).state = 1) = true
    rw [hk.2.1]; decide
  have h2 : d.urgent.filter (fun n => decide (((progOf d).task n).state = 1)) = d.urgent := by
    rw [List.filter_eq_self]
    intro n hn
    rw [po_task]
    exact decide_eq_true ((h.urM n).1 hn).2.1
  rw [h1, h2]; rfl
theorem submit_eq {d : DeskM} (h : DInv d) (l : List St) : (progOf d).submit l = (progOf (d.submit l).1, (d.submit l).2) := by
  unfold PM.submit DeskM.submit
  rw [po_waiting h]
  have hc : (progOf d).c = d.c := rfl
  rw [hc]
  by_cases hb : jobB l = false
  · rw [if_pos hb, if_pos hb]
  · rw [if_neg hb, if_neg hb]
    by_cases hq : d.c.queue ≤ d.waiting
    · rw [if_pos hq, if_pos hq]
    · rw [if_neg hq, if_neg hq]
      have hlen : (progOf d).tasks.length = d.jobs.length := by show (d.jobs.map taskOf).length = _; simp
      rw [hlen]
      refine Prod.ext ?_ rfl
      obtain ⟨e, he⟩ : ∃ e : DeskM, e = { d with jobs := d.jobs ++ [⟨l, 1, [], 0, 0, false⟩], queue := d.queue ++ [d.jobs.length + 1] } := ⟨_, rfl⟩
      show _ = progOf { d with jobs := d.jobs ++ [⟨l, 1, [], 0, 0, false⟩], queue := d.queue ++ [d.jobs.length + 1] }
      rw [← he]
      have hej : ∀ n, d.Has n → e.job n = d.job n := fun n hn => by
        have h1 := hn.1
        have h2 := hn.2
        rw [he]
        simp only [DeskM.job, List.getD]
        rw [List.getElem?_append_left (by omega)]
      have hww : e.workers.map (wkOf e) = d.workers.map (wkOf d) := by
        have hew : e.workers = d.workers := by rw [he]
        rw [hew]
        refine List.map_congr_left fun a ha => ?_
        obtain ⟨k, hk, rfl⟩ := wk_at ha
        exact wkOf_congr fun h0 => ⟨by rw [hej _ (h.work k (by rw [← h.wlen]; exact hk) h0).1], by rw [he]⟩
      have hru : runU e = runU d := by
        unfold runU
        have hew : e.workers = d.workers := by rw [he]
        rw [hew]
        congr 1
        refine List.filter_congr fun a ha => ?_
        obtain ⟨k, hk, rfl⟩ := wk_at ha
        by_cases h0 : (d.wk k).ticket = 0
        · rw [h0]; rfl
        · rw [hej _ (h.work k (by rw [← h.wlen]; exact hk) h0).1]
      refine PM.eq (by rw [he]; rfl) (by rw [he]; rfl) (by rw [he]; rfl) ?_ ?_ (by rw [he]; rfl) ?_ hww.symm
      · show knownOf d.goods (leastD d) = knownOf e.goods (leastK (e.workers.map (wkOf e)) e.goods.length)
        rw [hww, he]; rfl
      · show d.jobs.map taskOf ++ [⟨1, 0, 0, l, []⟩] = e.jobs.map taskOf
        rw [he, List.map_append]; rfl
      · show runU d ++ d.urgent = runU e ++ e.urgent
        rw [hru, he]
theorem goods_le {d : DeskM} (h : DInv d) : d.goods.length ≤ d.jobs.length := by
  have hn : ((List.range d.goods.length).map fun i => (gAt d.goods i).ticket).Nodup := by
    rw [List.Nodup, List.pairwise_map]
    refine (List.nodup_range (n := d.goods.length)).imp_of_mem fun {a b} ha hb hne e => hne ?_
    exact h.g.gone a b (List.mem_range.1 ha) (List.mem_range.1 hb) e
  have hs : ((List.range d.goods.length).map fun i => (gAt d.goods i).ticket) ⊆ numsOf d fun _ => true := fun n hn => by
    obtain ⟨i, hi, rfl⟩ := List.mem_map.1 hn
    exact nums_mem.2 ⟨(h.g.gjob i (List.mem_range.1 hi)).1, rfl⟩
  have := hn.length_le_of_subset hs
  rw [nums_len] at this
  simp only [List.length_map, List.length_range] at this
  exact Nat.le_trans this (List.length_filter_le _ _)
theorem queue_le {d : DeskM} (h : DInv d) : d.queue.length ≤ d.jobs.length := by
  have := h.quD.length_le_of_subset (l₂ := numsOf d fun _ => true) (fun n hn => nums_mem.2 ⟨((h.quM n).1 hn).1, rfl⟩)
  rw [nums_len] at this
  exact Nat.le_trans this (List.length_filter_le _ _)
theorem urgent_le {d : DeskM} (h : DInv d) : d.urgent.length ≤ d.jobs.length := by
  have := h.urD.length_le_of_subset (l₂ := numsOf d fun _ => true) (fun n hn => nums_mem.2 ⟨((h.urM n).1 hn).1, rfl⟩)
  rw [nums_len] at this
  exact Nat.le_trans this (List.length_filter_le _ _)
def Bd (N : Nat) (d : DeskM) : Prop := d.jobs.length ≤ N ∧ ∀ j ∈ d.jobs, j.tries ≤ N
theorem Bd.job {N : Nat} {d : DeskM} (h : Bd N d) (n : Nat) : (d.job n).tries ≤ N := by
  unfold DeskM.job
  rw [List.getD]
  cases e : d.jobs[n - 1]? with
  | none => exact Nat.zero_le _
  | some j => exact h.2 j (List.mem_of_getElem? e)
theorem Bd.mono {N M : Nat} {d : DeskM} (h : Bd N d) (hm : N ≤ M) : Bd M d := ⟨Nat.le_trans h.1 hm, fun j hj => Nat.le_trans (h.2 j hj) hm⟩
theorem bd_set {N : Nat} {d e : DeskM} {n : Nat} {j : JobM} (h : Bd N d) (he : e.jobs = (d.setJob n j).jobs) (hj : j.tries ≤ N) : Bd N e := by
  refine ⟨by rw [he, set_len]; exact h.1, fun k hk => ?_⟩
  rw [he] at hk
  rcases List.mem_or_eq_of_mem_set hk with hk | rfl
  · exact h.2 k hk
  · exact hj
theorem bd_of {N : Nat} {d e : DeskM} (h : Bd N d) (he : e.jobs = d.jobs) : Bd N e := by unfold Bd; rw [he]; exact h
theorem Bd.submit {N : Nat} {d : DeskM} (h : Bd N d) (l : List St) : Bd (N + 1) (d.submit l).1 := by
  unfold DeskM.submit
  split
  · exact h.mono (by omega)
  · split
    · exact h.mono (by omega)
    · refine ⟨by simp; exact h.1, fun j hj => ?_⟩
      rcases List.mem_append.1 hj with hj | hj
      · exact Nat.le_succ_of_le (h.2 j hj)
      · rw [List.mem_singleton.1 hj]; exact Nat.zero_le _
theorem Bd.cancel {N : Nat} {d : DeskM} (h : Bd N d) (n : Int) : Bd N (d.cancel n).1 := by
  unfold DeskM.cancel
  split
  · exact h
  · split
    · exact h
    · exact bd_set (n := n.toNat) (j := { d.job n.toNat with state := 6 }) h rfl (h.job _)
theorem Bd.kill {N : Nat} {d : DeskM} (h : Bd N d) (i : Int) : Bd N (d.kill i).1 := by
  unfold DeskM.kill
  split
  · exact h
  · simp only
    split
    · exact h
    · split
      · exact bd_set (n := (d.workers.getD i.toNat att0).ticket) (j := { d.job (d.workers.getD i.toNat att0).ticket with state := 1 }) h rfl (h.job _)
      · exact bd_set (n := (d.workers.getD i.toNat att0).ticket) (j := { d.job (d.workers.getD i.toNat att0).ticket with state := 1 }) h rfl (h.job _)
theorem Bd.failedJ {N : Nat} {d : DeskM} (h : Bd N d) (n p : Nat) : Bd N (d.failedJ n p).1 := by
  unfold DeskM.failedJ
  simp only
  split
  · exact bd_set (n := n) (j := { d.job n with state := 1, failed := (d.job n).failed + 1, urgent := true }) h rfl (h.job _)
  · exact bd_set (n := n) (j := { d.job n with state := 1, failed := (d.job n).failed + 1 }) h rfl (h.job _)
theorem Bd.looked {N : Nat} {d : DeskM} (h : Bd N d) (i : Nat) (x : Mo) (state : Int) : Bd N (d.looked i x state).1 := by
  unfold DeskM.looked
  simp only
  obtain ⟨t, ht⟩ : ∃ t : GoodM, t = ⟨(d.workers.getD i att0).ticket, (d.workers.getD i att0).beg, x.read, if state = 3 then x.puts else fun _ => none⟩ := ⟨_, rfl⟩
  rw [← ht]
  split
  · exact Bd.failedJ (d := { d with workers := d.workers.set i att0 }) (bd_of h rfl) _ _
  · exact bd_set (n := (d.workers.getD i att0).ticket) (j := { DeskM.job { d with workers := d.workers.set i att0 } (d.workers.getD i att0).ticket with state := state, told := x.told }) (bd_of (e := { d with workers := d.workers.set i att0 }) h rfl) rfl (h.job _)
theorem Bd.pick {N : Nat} {d : DeskM} (h : Bd N d) (i : Int) : Bd (N + 1) (d.pick i).1 := by
  unfold DeskM.pick
  split
  · exact h.mono (by omega)
  · split
    · unfold DeskM.taken
      simp only
      split
      · exact h.mono (by omega)
      · exact bd_set (n := d.nextJob) (j := { d.job d.nextJob with state := 2, tries := (d.job d.nextJob).tries + 1 }) (h.mono (Nat.le_succ N)) rfl (Nat.succ_le_succ (h.job _))
    · unfold DeskM.goes
      simp only
      split
      · exact (h.looked _ _ _).mono (by omega)
      · split
        · exact (h.looked _ _ _).mono (by omega)
        · split
          · exact (h.looked _ _ _).mono (by omega)
          · exact bd_of (h.mono (by omega)) rfl
theorem bd0 (c : ConfM) : Bd 0 (desk0 c) := ⟨by simp [desk0], fun j hj => by simp [desk0] at hj⟩
open Go.RowKit
theorem play_moOk {l : List St} (hj : jobB l = true) {m : Int → Int} (hm : ∀ k, m k ≤ 9999) : ∀ (n : Nat) (x : Mo), MoOk l.length x → MoOk l.length (play l m n x)
  | 0, x, h => h
  | n + 1, x, h => by
    by_cases hc : x.fin = 0 ∧ x.pc < l.length
    · rw [play_go hc]
      exact play_moOk hj hm n _ (stp_ok h hc.2 hm ((jobB_at hj).2 _ hc.2))
    · rw [play_end hc]; exact h
theorem aX_ok {d : DeskM} (h : DInv d) {i : Nat} (hi : i < d.c.workers) (hi0 : (d.wk i).ticket ≠ 0) : MoOk (d.job (d.wk i).ticket).steps.length (d.aX (d.wk i)) := by
  obtain ⟨hn, _, hb, _⟩ := h.work i hi hi0
  exact play_moOk (h.jobs _ hn).1 (fun k => mapF_le h.g hb k) _ _ (mo0_ok _)
theorem runU_sub {d : DeskM} (h : DInv d) {n : Nat} (hn : n ∈ runU d) : d.Has n := by
  unfold runU at hn
  obtain ⟨a, ha, rfl⟩ := List.mem_map.1 hn
  have ha' := List.mem_filter.1 ha
  obtain ⟨i, hi, rfl⟩ := wk_at ha'.1
  have hp := ha'.2
  rw [Bool.and_eq_true] at hp
  exact (h.work i (by rw [← h.wlen]; exact hi) (of_decide_eq_true hp.1)).1
theorem runU_len (d : DeskM) : (runU d).length ≤ d.workers.length := by
  unfold runU
  rw [List.length_map]
  exact List.length_filter_le _ _
theorem po_tlen (d : DeskM) : (progOf d).tasks.length = d.jobs.length := by show (d.jobs.map taskOf).length = _; simp
theorem po_wlen (d : DeskM) : (progOf d).workers.length = d.workers.length := by show (d.workers.map (wkOf d)).length = _; simp
theorem fits_of {d : DeskM} (h : DInv d) (u : UInv d) (hb : Bd 999999990 d) : Fits (progOf d) := by
  have hc := h.conf
  have hg := goods_le h
  have hq := queue_le h
  have hu := urgent_le h
  have hr := runU_len d
  have hl := h.wlen
  have hj := hb.1
  refine ⟨by rw [po_tlen]; omega, ⟨by show d.queue.length ≤ _; omega, fun n hn => ?_⟩, ⟨?_, fun n hn => ?_⟩, ?_, by show d.goods.length ≤ _; omega, by rw [po_wlen]; omega, fun i hi => ?_, fun i hi => ?_, fun i hi => ?_⟩
  · rw [po_tlen]; exact ((h.quM n).1 hn).1
  · show (runU d ++ d.urgent).length ≤ _
    rw [List.length_append]; omega
  · rw [po_tlen]
    have hn' : n ∈ runU d ++ d.urgent := hn
    rcases List.mem_append.1 hn' with hn | hn
    · exact runU_sub h hn
    · exact ((h.urM n).1 hn).1
  · show (knownOf d.goods _).length ≤ _
    rw [known_len]; omega
  · rw [po_wlen, h.wlen] at hi
    rw [po_wk, po_tlen]
    by_cases h0 : (d.wk i).ticket = 0
    · unfold wkOf; rw [if_pos h0]; exact Nat.zero_le _
    · rw [looked_at h0]; exact (h.work i hi h0).1.2
  · rw [po_wlen, h.wlen] at hi
    rw [po_wk]
    by_cases h0 : (d.wk i).ticket = 0
    · unfold wkOf; rw [if_pos h0]; exact Nat.zero_le _
    · rw [looked_at h0]
      have h1 := (aX_ok h hi h0).told
      have h2 := h.work i hi h0
      show (d.aX (d.wk i)).told.length ≤ 1000
      omega
  · rw [po_tlen] at hi
    have hhas : d.Has (i + 1) := ⟨by omega, by omega⟩
    have := po_task d (i + 1)
    have e : (progOf d).tasks.getD i task0 = taskOf (d.job (i + 1)) := this
    rw [e]
    have h1 := hb.job (i + 1)
    have h2 := u.few (i + 1) hhas
    exact ⟨by show (d.job (i + 1)).tries ≤ _; omega, by show (d.job (i + 1)).failed ≤ _; omega⟩
theorem runs_of {d : DeskM} (h : DInv d) (i : Nat) (hi : i < (progOf d).workers.length) (hi0 : ((progOf d).wk i).ticket ≠ 0) : RunsOk (progOf d) i := by
  rw [po_wlen, h.wlen] at hi
  rw [po_wk] at hi0
  have h0 : (d.wk i).ticket ≠ 0 := fun e => by unfold wkOf at hi0; rw [if_pos e] at hi0; exact hi0 rfl
  obtain ⟨hn, hs2, hbg, hdf, hfin, hdone⟩ := h.work i hi h0
  have hc := h.conf
  have hts : ((progOf d).task (d.wk i).ticket).steps = (d.job (d.wk i).ticket).steps := by
    rw [po_task]; unfold taskOf; simp [hs2]
  have hok := aX_ok h hi h0
  refine ⟨?_, ?_, ?_, ?_, ?_, ?_, ?_⟩
  · rw [po_wk, looked_at h0]
  · rw [po_wk, looked_at h0]; exact hfin
  · rw [po_wk, looked_at h0]; show (d.aX (d.wk i)).done ≤ d.c.fuel; omega
  · show d.c.fuel ≤ 200; omega
  · rw [po_wk, looked_at h0]; simp only; rw [hts]; exact hok
  · rw [po_wk, looked_at h0]; simp only; rw [hts]; exact (h.jobs _ hn).1
  · rw [po_wk, looked_at h0]; exact fun k => mapF_le h.g hbg k
structure Ask (d : DeskM) : Prop where
  inv : DInv d
  urg : UInv d
  bd : Bd 999999990 d
def PStepD (F : Nat → Prop) (w : World) (b : Nat) (d' : DeskM) (r : Value) (e : Ending) (w' : World) : Prop := e = .returned r ∧ PDd F w' b d' ∧ Fr F w w'
theorem stp_F {o : Nat → Option Nat} {F : Nat → Prop} {w w' : World} {b : Nat} {d' : DeskM} (hF : ∀ k, o k ≠ none → F k) (hN : ∀ k, w.heap.size ≤ k → F k) (h : ∃ o' v', PD o' w' b (progOf d') v' ∧ Own w o o' ∧ Fr (Mine o) w w') : PDd F w' b d' ∧ Fr F w w' := by
  obtain ⟨o', v', h1, h2, h3⟩ := h
  refine ⟨⟨o', v', h1, fun k hk => ?_⟩, h3.mono fun k _ hm => hF k hm⟩
  by_cases hl : k < w.heap.size
  · rw [h2 k hl] at hk; exact hF k hk
  · exact hN k (by omega)
theorem ppick_ok (F : Nat → Prop) (w : World) (b : Nat) (d : DeskM) (i : Int) (h : PDd F w b d) (hA : Ask d) (hN : ∀ k, w.heap.size ≤ k → F k) :
    Calls Tryz.prog 59 #[ptrV b, .int .i64 i] w fun e w' => PStepD F w b (d.pick i).1 (.tuple #[noteA (d.pick i).2.1, .int .i64 (d.pick i).2.2]) e w' := by
  obtain ⟨o, v, h, hF⟩ := h
  refine (pick_pd h (fits_of hA.inv hA.urg hA.bd) (runs_of hA.inv) i).mono fun e w' ⟨h1, o', v', h2, h3, h4, _⟩ => ?_
  rw [pick_eq hA.inv hA.urg] at h1 h2
  exact ⟨h1, stp_F hF hN ⟨o', v', h2, h3, h4⟩⟩
theorem pkill_ok (F : Nat → Prop) (w : World) (b : Nat) (d : DeskM) (i : Int) (h : PDd F w b d) (hA : Ask d) (hN : ∀ k, w.heap.size ≤ k → F k) :
    Calls Tryz.prog 37 #[ptrV b, .int .i64 i] w fun e w' => PStepD F w b (d.kill i).1 (.int .i64 (d.kill i).2) e w' := by
  obtain ⟨o, v, h, hF⟩ := h
  refine (kill_pd h (fits_of hA.inv hA.urg hA.bd) i).mono fun e w' ⟨h1, o', v', h2, h3, h4, _⟩ => ?_
  rw [kill_eq hA.inv hA.urg] at h1 h2
  exact ⟨h1, stp_F hF hN ⟨o', v', h2, h3, h4⟩⟩
theorem pcancel_ok (F : Nat → Prop) (w : World) (b : Nat) (d : DeskM) (n : Int) (h : PDd F w b d) (hA : Ask d) (hN : ∀ k, w.heap.size ≤ k → F k) :
    Calls Tryz.prog 35 #[ptrV b, .int .i64 n] w fun e w' => PStepD F w b (d.cancel n).1 (.int .i64 (d.cancel n).2) e w' := by
  obtain ⟨o, v, h, hF⟩ := h
  refine (cancel_pd h (fits_of hA.inv hA.urg hA.bd) n).mono fun e w' ⟨h1, o', v', h2, h3, h4, _⟩ => ?_
  rw [cancel_eq hA.inv] at h1 h2
  exact ⟨h1, stp_F hF hN ⟨o', v', h2, h3, h4⟩⟩
theorem psubmit_ok (F : Nat → Prop) (w : World) (b : Nat) (d : DeskM) (sv : Value) (l : List St) (h : PDd F w b d) (hA : Ask d) (hsv : StepsV w sv l) (hN : ∀ k, w.heap.size ≤ k → F k) :
    Calls Tryz.prog 57 #[ptrV b, sv] w fun e w' => PStepD F w b (d.submit l).1 (.tuple #[.int .i64 ((d.submit l).2.1 : Int), .int .i64 (d.submit l).2.2]) e w' := by
  obtain ⟨o, v, h, hF⟩ := h
  have hj := hA.bd.1
  have hq := queue_le hA.inv
  refine (submit_pd h (fits_of hA.inv hA.urg hA.bd) (by rw [po_tlen]; omega) (by show d.queue.length ≤ _; omega) sv l hsv).mono fun e w' ⟨h1, o', v', h2, h3, h4⟩ => ?_
  rw [submit_eq hA.inv] at h1 h2
  exact ⟨h1, stp_F hF hN ⟨o', v', h2, h3, h4⟩⟩
theorem mapped_any (K : DeskKit) (Inv : DeskM → Prop) (B : Nat) (own : Nat → Nat) (W : World) (pb : Nat) (dv : Value) (one : Bool) (iv pv : Value) (vs ps : List Value) (ds : List DP) (i : Nat)
    (h : LA K Inv B own W pb dv one iv pv vs ps ds) (hi : i < ds.length) (hps : ps.length ≤ 1000000000000) (hg : (ds.getD i dp0).d.goods.length ≤ 1000000000000) :
    Calls Tryz.prog 19 #[.pointer (some ⟨pb, 0, none⟩), ptrV (ds.getD i dp0).p] W fun e W' => Said1L K Inv B W pb dv one vs ps ds 0 4 e W' := by
  have H : Hid (LA K Inv B (mine own W.heap.size) W pb dv one iv pv vs ps ds) := h.mine
  have HI : Hid (i < ds.length ∧ (ds.getD i dp0).d.goods.length ≤ 1000000000000 ∧ ps.length ≤ 1000000000000) := ⟨hi, hg, hps⟩
  have c0 := h.cx hi
  have c1 := h.cy hi
  have hpl := blk_lt (h.pr i hi).2
  obtain ⟨t, ht⟩ : ∃ t, t = ds.getD i dp0 := ⟨_, rfl⟩
  have HT : Hid (ds.getD i dp0 = t) := ht.symm
  rw [← ht] at c0 c1 hpl ⊢
  clear h hi hg hps ht
  unfold ptrV
  go_enter Tryz.func19, Tryz.ntmps19
  go_wp2_with fail
  refine (K.map _ W t.x t.d (HT.out ▸ H.out.px i HI.out.1)).mono ?_
  rintro e W1 ⟨av, rfl, hav, hb1⟩
  have HA1 : Hid (W1.ownsRow W.heap.size 58 2 av (listOf (mapF t.d.goods)).length (prCells (listOf (mapF t.d.goods)))) := hav
  have HB1 : Hid (Below W.heap.size W W1) := hb1
  have d1 := (hb1.cell (p := ⟨t.p, 1, none⟩) hpl).trans c1
  clear hav hb1 c0 c1
  go_wp2_with fail
  refine (refMap_any _ W1 t.y t.d t.v (HT.out ▸ (H.out.below HB1.out).py i HI.out.1) (HT.out ▸ HI.out.2.1)).mono ?_
  rintro e W2 ⟨bv, rfl, hbv, hb2⟩
  have HA2 : Hid (W2.ownsRow W.heap.size 58 2 av (listOf (mapF t.d.goods)).length (prCells (listOf (mapF t.d.goods)))) := owns_keep HA1.out hb2
  have HC2 : Hid (W2.ownsRow W1.heap.size 58 2 bv (listOf (mapF t.d.goods)).length (prCells (listOf (mapF t.d.goods)))) := hbv
  have HB2 : Hid (Below W.heap.size W W2) := HB1.out.trans (hb2.mono HB1.out.size)
  clear hbv hb2 d1 HA1
  go_wp2_with fail
  refine (pivotlaw_samePairs_any _ _ W2.heap.size W2.heap.size (listOf (mapF t.d.goods)) (listOf (mapF t.d.goods)) W2 (pairsV_own HA2.out (by have := listOf_len (mapF t.d.goods); omega)) (pairsV_own HC2.out (by have := listOf_len (mapF t.d.goods); omega))).mono ?_
  rintro e W3 ⟨rfl, hb3⟩
  simp only [decide_true]
  have HA3 : Hid (W3.ownsRow W.heap.size 58 2 av (listOf (mapF t.d.goods)).length (prCells (listOf (mapF t.d.goods)))) := owns_keep HA2.out hb3
  have HB3 : Hid (Below W.heap.size W W3) := HB2.out.trans (hb3.mono HB2.out.size)
  clear hb3 HA2 HC2
  go_wp2_with fail
  have H3 : Hid (LA K Inv B (mine own W.heap.size) W3 pb dv one iv pv vs ps ds) := H.out.below HB3.out
  refine (keepPairs_any B W3 pb dv one iv pv vs ps av _ _ (by have := HI.out.2.2; omega) H3.out.lw (owns_base HA3.out H.out.size) (by have := listOf_len (mapF t.d.goods); omega) (H.out.lw.freshP HA3.out (Nat.le_refl _))).mono ?_
  rintro e W4 hk
  obtain ⟨rfl, pv', ps', hL, hlen, hb4⟩ := H3.out.keptP HB3.out.size HA3.out hk
  have HL : Hid (LA K Inv B (mine own W.heap.size) W4 pb dv one iv pv' vs ps' ds ∧ ps'.length = ps.length + 4 ∧ Below B W W4) := ⟨hL, hlen, (HB3.out.mono H.out.size).trans hb4⟩
  clear hk hL hlen hb4
  go_wp2
  go_ret
  exact ⟨rfl, _, _, _, _, _, HL.out.1, rfl, HL.out.2.1, HL.out.2.2⟩
theorem polled_any (K : DeskKit) (Inv : DeskM → Prop) (B : Nat) (own : Nat → Nat) (W : World) (pb : Nat) (dv : Value) (one : Bool) (iv pv : Value) (vs ps : List Value) (ds : List DP) (i : Nat) (n : Int)
    (h : LA K Inv B own W pb dv one iv pv vs ps ds) (hi : i < ds.length) (hvs : vs.length ≤ 1000000000000) (hj : (ds.getD i dp0).d.jobs.length ≤ 1000000000000) (ht : ∀ k, k < (ds.getD i dp0).d.jobs.length → ((ds.getD i dp0).d.jobs.getD k jobM0).told.length ≤ 200) :
    Calls Tryz.prog 20 #[.pointer (some ⟨pb, 0, none⟩), ptrV (ds.getD i dp0).p, .int .i64 n] W fun e W' => Said1L K Inv B W pb dv one vs ps ds 4 0 e W' := by
  have H : Hid (LA K Inv B (mine own W.heap.size) W pb dv one iv pv vs ps ds) := h.mine
  have HI : Hid (i < ds.length ∧ (ds.getD i dp0).d.jobs.length ≤ 1000000000000 ∧ (∀ k, k < (ds.getD i dp0).d.jobs.length → ((ds.getD i dp0).d.jobs.getD k jobM0).told.length ≤ 200) ∧ vs.length ≤ 1000000000000) := ⟨hi, hj, ht, hvs⟩
  have c0 := h.cx hi
  have c1 := h.cy hi
  have hpl := blk_lt (h.pr i hi).2
  obtain ⟨t, htt⟩ : ∃ t, t = ds.getD i dp0 := ⟨_, rfl⟩
  have HT : Hid (ds.getD i dp0 = t) := htt.symm
  rw [← htt] at c0 c1 hpl ⊢
  have hlen : Hid ((t.d.poll n).2.1.length ≤ 200) := by
    show _ ≤ _
    by_cases hin : 1 ≤ n ∧ n ≤ t.d.jobs.length
    · rw [show n = ((n - 1).toNat : Int) + 1 by omega, poll_yes (by omega)]
      have := ht (n - 1).toNat (by rw [← htt]; omega)
      rw [← htt] at this
      exact this
    · rw [poll_no hin]; simp
  clear h hi hj hvs ht htt
  unfold ptrV
  go_enter Tryz.func20, Tryz.ntmps20
  go_wp2_with fail
  refine (K.poll _ W t.x t.d n (HT.out ▸ H.out.px i HI.out.1) (HT.out ▸ HI.out.2.1) (fun k hk => Nat.le_trans (by have := HI.out.2.2.1; rw [HT.out] at this; exact this k hk) (by decide))).mono ?_
  rintro e W1 ⟨av, rfl, hav, hb1⟩
  obtain ⟨aa, ac, rfl⟩ := owns_form hav
  have HA1 : Hid (W1.ownsRow W.heap.size 3 1 (.slice aa (t.d.poll n).2.1.length ac) (t.d.poll n).2.1.length ((t.d.poll n).2.1.map (Value.int .i64))) := hav
  have HB1 : Hid (Below W.heap.size W W1) := hb1
  have d1 := (hb1.cell (p := ⟨t.p, 1, none⟩) hpl).trans c1
  have hpl1 := Nat.lt_of_lt_of_le hpl hb1.size
  clear hav hb1 c0 c1
  obtain ⟨q1, hq1⟩ : ∃ q, q = (t.d.poll n).1 := ⟨_, rfl⟩
  obtain ⟨q2, hq2⟩ : ∃ q, q = (t.d.poll n).2.2.1 := ⟨_, rfl⟩
  obtain ⟨q3, hq3⟩ : ∃ q, q = (t.d.poll n).2.2.2 := ⟨_, rfl⟩
  obtain ⟨ql, hql⟩ : ∃ q, q = (t.d.poll n).2.1 := ⟨_, rfl⟩
  have HQ : Hid (q1 = (t.d.poll n).1 ∧ q2 = (t.d.poll n).2.2.1 ∧ q3 = (t.d.poll n).2.2.2 ∧ ql = (t.d.poll n).2.1) := ⟨hq1, hq2, hq3, hql⟩
  rw [← hq1, ← hq2, ← hq3, ← hql]
  rw [← hql] at HA1 hlen
  clear hq1 hq2 hq3 hql
  go_wp2_with fail
  refine name_calls (p := fun X => Below W1.heap.size W1 X ∧ X.heap[W1.heap.size]? = some (.cells #[.int .i64 q1, .slice aa ql.length ac, .int .i64 q2] 82 (0, 0))) ⟨(Below.refl _ _).alloc (Nat.le_refl _) _, heap_alloc_new _ _⟩ ?_
  rintro X1 ⟨k1, k2⟩
  have HX1 : Hid (Below W.heap.size W X1 ∧ W.heap.size ≤ W1.heap.size) := ⟨HB1.out.trans (k1.mono HB1.out.size), HB1.out.size⟩
  have HAX : Hid (X1.ownsRow W.heap.size 3 1 (.slice aa ql.length ac) ql.length (ql.map (Value.int .i64))) := owns_keep HA1.out k1
  have HBox : Hid (X1.heap[W1.heap.size]? = some (.cells #[.int .i64 q1, .slice aa ql.length ac, .int .i64 q2] 82 (0, 0))) := k2
  have hbo := blk_lt k2
  clear k1 k2 HA1 d1 hpl1
  generalize W1.heap.size = bo at HX1 HBox hbo ⊢
  refine (refPoll_any _ X1 t.y t.d t.v n (HT.out ▸ (H.out.below HX1.out.1).py i HI.out.1) (HT.out ▸ HI.out.2.1) (fun k hk => Nat.le_trans (by have := HI.out.2.2.1; rw [HT.out] at this; exact this k hk) (by decide))).mono ?_
  rintro e W2 ⟨bv, rfl, hbv, hb2⟩
  rw [← HQ.out.1, ← HQ.out.2.1, ← HQ.out.2.2.1]
  rw [← HQ.out.2.2.2] at hbv
  obtain ⟨ba, bc, rfl, hbv'⟩ := id hbv
  clear hbv'
  have HV2 : Hid (IntsV W2 (.slice ba ql.length bc) ql) := hbv
  have HB2 : Hid (Below W.heap.size W W2) := HX1.out.1.trans (hb2.mono HX1.out.1.size)
  have HA2 : Hid (W2.ownsRow W.heap.size 3 1 (.slice aa ql.length ac) ql.length (ql.map (Value.int .i64))) := owns_keep HAX.out hb2
  have HBox2 : Hid (W2.heap[bo]? = some (.cells #[.int .i64 q1, .slice aa ql.length ac, .int .i64 q2] 82 (0, 0))) := (hb2.block _ hbo).trans HBox.out
  have z0 : W2.cell? ⟨bo, 0, none⟩ = some (.int .i64 q1) := by rw [blk_cell HBox2.out]; rfl
  have z1 : W2.cell? ⟨bo, 1, none⟩ = some (.slice aa ql.length ac) := by rw [blk_cell HBox2.out]; rfl
  have z2 : W2.cell? ⟨bo, 2, none⟩ = some (.int .i64 q2) := by rw [blk_cell HBox2.out]; rfl
  have hbo2 := blk_lt HBox2.out
  clear hbv hb2 HAX HBox hbo
  go_wp2_with fail
  refine name_calls (p := fun X => Below W2.heap.size W2 X) ((Below.refl _ _).alloc (Nat.le_refl _) _) ?_
  intro X2 k1
  have HBX2 : Hid (Below W.heap.size W X2) := HB2.out.trans (k1.mono HB2.out.size)
  have HAX2 : Hid (X2.ownsRow W.heap.size 3 1 (.slice aa ql.length ac) ql.length (ql.map (Value.int .i64))) := owns_keep HA2.out k1
  have HVX2 : Hid (IntsV X2 (.slice ba ql.length bc) ql) := HV2.out.below k1
  have y1 : X2.cell? ⟨bo, 1, none⟩ = some (.slice aa ql.length ac) := (k1.cell (p := ⟨bo, 1, none⟩) hbo2).trans z1
  have hbx2 := Nat.lt_of_lt_of_le hbo2 k1.size
  clear k1 z0 z1 z2 HV2 HA2 HBox2
  refine (pivotlaw_sameOutcome_any _ _ _ _ _ _ ql ql X2 (intsV_own HAX2.out (by have := hlen.out; omega)) HVX2.out).mono ?_
  rintro e W3 ⟨rfl, hb3⟩
  simp only [decide_true, Bool.and_self]
  have HB3 : Hid (Below W.heap.size W W3) := HBX2.out.trans (hb3.mono HBX2.out.size)
  have HA3 : Hid (W3.ownsRow W.heap.size 3 1 (.slice aa ql.length ac) ql.length (ql.map (Value.int .i64))) := owns_keep HAX2.out hb3
  have y2 : W3.cell? ⟨bo, 1, none⟩ = some (.slice aa ql.length ac) := (hb3.cell (p := ⟨bo, 1, none⟩) hbx2).trans y1
  clear hb3 y1 HAX2 HVX2
  go_wp2_with fail
  have H3 : Hid (LA K Inv B (mine own W.heap.size) W3 pb dv one iv pv vs ps ds) := H.out.below HB3.out
  refine (keepInts_any B W3 pb dv one iv pv vs ps _ _ _ (by have := HI.out.2.2.2; omega) H3.out.lw (owns_base HA3.out H.out.size) (by have := hlen.out; omega) (H.out.lw.freshI HA3.out (Nat.le_refl _))).mono ?_
  rintro e W4 hk
  obtain ⟨rfl, iv', vs', hL, hln, hb4⟩ := H3.out.keptI HB3.out.size HA3.out hk
  have HL : Hid (LA K Inv B (mine own W.heap.size) W4 pb dv one iv' pv vs' ps ds ∧ vs'.length = vs.length + 4 ∧ Below B W W4) := ⟨hL, hln, (HB3.out.mono H.out.size).trans hb4⟩
  clear hk hL hln hb4
  go_wp2
  go_ret
  exact ⟨rfl, _, _, _, _, _, HL.out.1, HL.out.2.1, rfl, HL.out.2.2⟩
end Go.Proofs.YtlbmcdoldnajoaaGreat
