import Derived.Test.YtlbmcdoldnajoabProgV
import Derived.Test.YtlbmcdoldnajoabPFunM

namespace Go.Proofs.Ytlbmcdoldnajoab
theorem job_num {d : DeskM} {j : JobM} (hj : j ∈ d.jobs) : ∃ n, d.Has n ∧ d.job n = j := by
  obtain ⟨k, hk, e⟩ := List.getElem_of_mem hj
  exact ⟨k + 1, ⟨by omega, by omega⟩, by simp [DeskM.job, List.getD, hk, e]⟩
/-- the numbers of the jobs of which something holds -/
def numsOf (d : DeskM) (p : JobM → Bool) : List Nat := ((List.range d.jobs.length).map (· + 1)).filter fun n => p (d.job n)
theorem nums_mem {d : DeskM} {p : JobM → Bool} {n : Nat} : n ∈ numsOf d p ↔ d.Has n ∧ p (d.job n) = true := by
  unfold numsOf
  rw [List.mem_filter, List.mem_map]
  constructor
  · rintro ⟨⟨k, hk, rfl⟩, h⟩
    have := List.mem_range.1 hk
    exact ⟨⟨by omega, by omega⟩, h⟩
  · rintro ⟨⟨h1, h2⟩, h⟩
    exact ⟨⟨n - 1, List.mem_range.2 (by omega), by omega⟩, h⟩
theorem nums_nodup (d : DeskM) (p : JobM → Bool) : (numsOf d p).Nodup := by
  unfold numsOf
  refine List.Pairwise.filter _ ?_
  rw [List.pairwise_map]
  exact (List.nodup_range (n := d.jobs.length)).imp fun {a b} h => by omega
theorem nums_len (d : DeskM) (p : JobM → Bool) : (numsOf d p).length = (d.jobs.filter p).length := by
  unfold numsOf
  have e : d.jobs = (List.range d.jobs.length).map fun k => d.job (k + 1) := by
    refine List.ext_getElem (by simp) (fun k h1 h2 => ?_)
    rw [List.getElem_map, List.getElem_range]
    simp [DeskM.job, List.getD, h1]
  have : ∀ l : List Nat, ((l.map (· + 1)).filter fun n => p (d.job n)).length = ((l.map fun k => d.job (k + 1)).filter p).length := fun l => by
    induction l with
    | nil => rfl
    | cons a r ih =>
      rw [List.map_cons, List.map_cons, List.filter_cons, List.filter_cons]
      split
      · rw [List.length_cons, List.length_cons, ih]
      · exact ih
  rw [this, ← e]
theorem waitingD_eq {d : DeskM} (h : DInv d) : d.waiting = d.queue.length + d.urgent.length := by
  have hp : (numsOf d fun j => decide (j.state = 1)).Perm (d.queue ++ d.urgent) := by
    refine (List.perm_ext_iff_of_nodup (nums_nodup _ _) ?_).2 fun n => ?_
    · rw [List.nodup_append]
      refine ⟨h.quD, h.urD, fun a ha b hb e => ?_⟩
      subst e
      have h1 := ((h.quM a).1 ha).2.2
      rw [((h.urM a).1 hb).2.2] at h1
      cases h1
    · rw [nums_mem, List.mem_append, h.quM, h.urM]
      constructor
      · rintro ⟨h1, h2⟩
        have h2' := of_decide_eq_true h2
        cases hu : (d.job n).urgent
        · exact Or.inl ⟨h1, h2', rfl⟩
        · exact Or.inr ⟨h1, h2', rfl⟩
      · rintro (⟨h1, h2, _⟩ | ⟨h1, h2, _⟩)
        · exact ⟨h1, decide_eq_true h2⟩
        · exact ⟨h1, decide_eq_true h2⟩
  have hl := hp.length_eq
  rw [nums_len, List.length_append] at hl
  exact hl
theorem po_waiting {d : DeskM} (h : DInv d) : (progOf d).waiting = d.waiting := by
  rw [waitingD_eq h]
  show d.queue.length + ((runU d ++ d.urgent).filter fun n => decide (((progOf d).task n).state = 1)).length = _
  rw [List.filter_append]
  have h1 : (runU d).filter (fun n => decide (((progOf d).task n).state = 1)) = [] := by
    rw [List.filter_eq_nil_iff]
    intro n hn
    unfold runU at hn
    obtain ⟨a, ha, rfl⟩ := List.mem_map.1 hn
    have ha' := List.mem_filter.1 ha
    obtain ⟨i, hi, rfl⟩ := wk_at ha'.1
    have hp := ha'.2
    rw [Bool.and_eq_true] at hp
    have hk := h.work i (by rw [← h.wlen]; exact hi) (of_decide_eq_true hp.1)
    rw [po_task]
    show ¬ decide ((d.job (d.wk i).ticket).state = 1) = true
    rw [hk.2.1]; decide
  have h2 : d.urgent.filter (fun n => decide (((progOf d).task n).state = 1)) = d.urgent := by
    rw [List.filter_eq_self]
    intro n hn
    rw [po_task]
    exact decide_eq_true ((h.urM n).1 hn).2.1
  rw [h1, h2]; rfl
theorem submit_eq {d : DeskM} (h : DInv d) (l : List St) : (progOf d).submit l = (progOf (d.submit l).1, (d.submit l).2) := by
  unfold PM.submit DeskM.submit
  rw [po_waiting h]
  have hc : (progOf d).c = d.c := rfl
  rw [hc]
  by_cases hb : jobB l = false
  · rw [if_pos hb, if_pos hb]
  · rw [if_neg hb, if_neg hb]
    by_cases hq : d.c.queue ≤ d.waiting
    · rw [if_pos hq, if_pos hq]
    · rw [if_neg hq, if_neg hq]
      have hlen : (progOf d).tasks.length = d.jobs.length := by show (d.jobs.map taskOf).length = _; simp
      rw [hlen]
      refine Prod.ext ?_ rfl
      obtain ⟨e, he⟩ : ∃ e : DeskM, e = { d with jobs := d.jobs ++ [⟨l, 1, [], 0, 0, false⟩], queue := d.queue ++ [d.jobs.length + 1] } := ⟨_, rfl⟩
      show _ = progOf { d with jobs := d.jobs ++ [⟨l, 1, [], 0, 0, false⟩], queue := d.queue ++ [d.jobs.length + 1] }
      rw [← he]
      have hej : ∀ n, d.Has n → e.job n = d.job n := fun n hn => by
        have h1 := hn.1
        have h2 := hn.2
        rw [he]
        simp only [DeskM.job, List.getD]
        rw [List.getElem?_append_left (by omega)]
      have hww : e.workers.map (wkOf e) = d.workers.map (wkOf d) := by
        have hew : e.workers = d.workers := by rw [he]
        rw [hew]
        refine List.map_congr_left fun a ha => ?_
        obtain ⟨k, hk, rfl⟩ := wk_at ha
        exact wkOf_congr fun h0 => ⟨by rw [hej _ (h.work k (by rw [← h.wlen]; exact hk) h0).1], by rw [he]⟩
      have hru : runU e = runU d := by
        unfold runU
        have hew : e.workers = d.workers := by rw [he]
        rw [hew]
        congr 1
        refine List.filter_congr fun a ha => ?_
        obtain ⟨k, hk, rfl⟩ := wk_at ha
        by_cases h0 : (d.wk k).ticket = 0
        · rw [h0]; rfl
        · rw [hej _ (h.work k (by rw [← h.wlen]; exact hk) h0).1]
      refine PM.eq (by rw [he]; rfl) (by rw [he]; rfl) (by rw [he]; rfl) ?_ ?_ (by rw [he]; rfl) ?_ hww.symm
      · show knownOf d.goods (leastD d) = knownOf e.goods (leastK (e.workers.map (wkOf e)) e.goods.length)
        rw [hww, he]; rfl
      · show d.jobs.map taskOf ++ [⟨1, 0, 0, l, []⟩] = e.jobs.map taskOf
        rw [he, List.map_append]; rfl
      · show runU d ++ d.urgent = runU e ++ e.urgent
        rw [hru, he]
/-- as many were found good as jobs are over -/
theorem goods_le {d : DeskM} (h : DInv d) : d.goods.length ≤ d.jobs.length := by
  have hn : ((List.range d.goods.length).map fun i => (gAt d.goods i).ticket).Nodup := by
    rw [List.Nodup, List.pairwise_map]
    refine (List.nodup_range (n := d.goods.length)).imp_of_mem fun {a b} ha hb hne e => hne ?_
    exact h.g.gone a b (List.mem_range.1 ha) (List.mem_range.1 hb) e
  have hs : ((List.range d.goods.length).map fun i => (gAt d.goods i).ticket) ⊆ numsOf d fun _ => true := fun n hn => by
    obtain ⟨i, hi, rfl⟩ := List.mem_map.1 hn
    exact nums_mem.2 ⟨(h.g.gjob i (List.mem_range.1 hi)).1, rfl⟩
  have := hn.length_le_of_subset hs
  rw [nums_len] at this
  simp only [List.length_map, List.length_range] at this
  exact Nat.le_trans this (List.length_filter_le _ _)
theorem queue_le {d : DeskM} (h : DInv d) : d.queue.length ≤ d.jobs.length := by
  have := h.quD.length_le_of_subset (l₂ := numsOf d fun _ => true) (fun n hn => nums_mem.2 ⟨((h.quM n).1 hn).1, rfl⟩)
  rw [nums_len] at this
  exact Nat.le_trans this (List.length_filter_le _ _)
theorem urgent_le {d : DeskM} (h : DInv d) : d.urgent.length ≤ d.jobs.length := by
  have := h.urD.length_le_of_subset (l₂ := numsOf d fun _ => true) (fun n hn => nums_mem.2 ⟨((h.urM n).1 hn).1, rfl⟩)
  rw [nums_len] at this
  exact Nat.le_trans this (List.length_filter_le _ _)
/-- no more than N jobs, and no job was tried more often -/
def Bd (N : Nat) (d : DeskM) : Prop := d.jobs.length ≤ N ∧ ∀ j ∈ d.jobs, j.tries ≤ N
theorem Bd.job {N : Nat} {d : DeskM} (h : Bd N d) (n : Nat) : (d.job n).tries ≤ N := by
  unfold DeskM.job
  rw [List.getD]
  cases e : d.jobs[n - 1]? with
  | none => exact Nat.zero_le _
  | some j => exact h.2 j (List.mem_of_getElem? e)
end Go.Proofs.Ytlbmcdoldnajoab
namespace Go.Proofs.Ytlbmcdoldnajoab
open Go.RowKit
theorem play_moOk {l : List St} (hj : jobB l = true) {m : Int → Int} (hm : ∀ k, m k ≤ 9999) : ∀ (n : Nat) (x : Mo), MoOk l.length x → MoOk l.length (play l m n x)
  | 0, x, h => h
  | n + 1, x, h => by
    by_cases hc : x.fin = 0 ∧ x.pc < l.length
    · rw [play_go hc]
      exact play_moOk hj hm n _ (stp_ok h hc.2 hm ((jobB_at hj).2 _ hc.2))
    · rw [play_end hc]; exact h
theorem aX_ok {d : DeskM} (h : DInv d) {i : Nat} (hi : i < d.c.workers) (hi0 : (d.wk i).ticket ≠ 0) : MoOk (d.job (d.wk i).ticket).steps.length (d.aX (d.wk i)) := by
  obtain ⟨hn, _, hb, _⟩ := h.work i hi hi0
  exact play_moOk (h.jobs _ hn).1 (fun k => mapF_le h.g hb k) _ _ (mo0_ok _)
theorem runU_sub {d : DeskM} (h : DInv d) {n : Nat} (hn : n ∈ runU d) : d.Has n := by
  unfold runU at hn
  obtain ⟨a, ha, rfl⟩ := List.mem_map.1 hn
  have ha' := List.mem_filter.1 ha
  obtain ⟨i, hi, rfl⟩ := wk_at ha'.1
  have hp := ha'.2
  rw [Bool.and_eq_true] at hp
  exact (h.work i (by rw [← h.wlen]; exact hi) (of_decide_eq_true hp.1)).1
theorem runU_len (d : DeskM) : (runU d).length ≤ d.workers.length := by
  unfold runU
  rw [List.length_map]
  exact List.length_filter_le _ _
theorem po_tlen (d : DeskM) : (progOf d).tasks.length = d.jobs.length := by show (d.jobs.map taskOf).length = _; simp
theorem po_wlen (d : DeskM) : (progOf d).workers.length = d.workers.length := by show (d.workers.map (wkOf d)).length = _; simp
theorem fits_of {d : DeskM} (h : DInv d) (u : UInv d) (hb : Bd 999999990 d) : Fits (progOf d) := by
  have hc := h.conf
  have hg := goods_le h
  have hq := queue_le h
  have hu := urgent_le h
  have hr := runU_len d
  have hl := h.wlen
  have hj := hb.1
  refine ⟨by rw [po_tlen]; omega, ⟨by show d.queue.length ≤ _; omega, fun n hn => ?_⟩, ⟨?_, fun n hn => ?_⟩, ?_, by show d.goods.length ≤ _; omega, by rw [po_wlen]; omega, fun i hi => ?_, fun i hi => ?_, fun i hi => ?_⟩
  · rw [po_tlen]; exact ((h.quM n).1 hn).1
  · show (runU d ++ d.urgent).length ≤ _
    rw [List.length_append]; omega
  · rw [po_tlen]
    have hn' : n ∈ runU d ++ d.urgent := hn
    rcases List.mem_append.1 hn' with hn | hn
    · exact runU_sub h hn
    · exact ((h.urM n).1 hn).1
  · show (knownOf d.goods _).length ≤ _
    rw [known_len]; omega
  · rw [po_wlen, h.wlen] at hi
    rw [po_wk, po_tlen]
    by_cases h0 : (d.wk i).ticket = 0
    · unfold wkOf; rw [if_pos h0]; exact Nat.zero_le _
    · rw [looked_at h0]; exact (h.work i hi h0).1.2
  · rw [po_wlen, h.wlen] at hi
    rw [po_wk]
    by_cases h0 : (d.wk i).ticket = 0
    · unfold wkOf; rw [if_pos h0]; exact Nat.zero_le _
    · rw [looked_at h0]
      have h1 := (aX_ok h hi h0).told
      have h2 := h.work i hi h0
      show (d.aX (d.wk i)).told.length ≤ 1000
      omega
  · rw [po_tlen] at hi
    have hhas : d.Has (i + 1) := ⟨by omega, by omega⟩
    have := po_task d (i + 1)
    have e : (progOf d).tasks.getD i task0 = taskOf (d.job (i + 1)) := this
    rw [e]
    have h1 := hb.job (i + 1)
    have h2 := u.few (i + 1) hhas
    exact ⟨by show (d.job (i + 1)).tries ≤ _; omega, by show (d.job (i + 1)).failed ≤ _; omega⟩
theorem runs_of {d : DeskM} (h : DInv d) (i : Nat) (hi : i < (progOf d).workers.length) (hi0 : ((progOf d).wk i).ticket ≠ 0) : RunsOk (progOf d) i := by
  rw [po_wlen, h.wlen] at hi
  rw [po_wk] at hi0
  have h0 : (d.wk i).ticket ≠ 0 := fun e => by unfold wkOf at hi0; rw [if_pos e] at hi0; exact hi0 rfl
  obtain ⟨hn, hs2, hbg, hdf, hfin, hdone⟩ := h.work i hi h0
  have hc := h.conf
  have hts : ((progOf d).task (d.wk i).ticket).steps = (d.job (d.wk i).ticket).steps := by
    rw [po_task]; unfold taskOf; simp [hs2]
  have hok := aX_ok h hi h0
  refine ⟨?_, ?_, ?_, ?_, ?_, ?_, ?_⟩
  · rw [po_wk, looked_at h0]
  · rw [po_wk, looked_at h0]; exact hfin
  · rw [po_wk, looked_at h0]; show (d.aX (d.wk i)).done ≤ d.c.fuel; omega
  · show d.c.fuel ≤ 200; omega
  · rw [po_wk, looked_at h0]; simp only; rw [hts]; exact hok
  · rw [po_wk, looked_at h0]; simp only; rw [hts]; exact (h.jobs _ hn).1
  · rw [po_wk, looked_at h0]; exact fun k => mapF_le h.g hbg k
/-- what is asked ahead of a call -/
structure Ask (d : DeskM) : Prop where
  inv : DInv d
  urg : UInv d
  bd : Bd 999999990 d
/-- what a call of the program's desk leaves -/
def PStepD (F : Nat → Prop) (w : World) (b : Nat) (d' : DeskM) (r : Value) (e : Ending) (w' : World) : Prop := e = .returned r ∧ PDd F w' b d' ∧ Fr F w w'
theorem stp_F {o : Nat → Option Nat} {F : Nat → Prop} {w w' : World} {b : Nat} {d' : DeskM} (hF : ∀ k, o k ≠ none → F k) (hN : ∀ k, w.heap.size ≤ k → F k) (h : ∃ o' v', PD o' w' b (progOf d') v' ∧ Own w o o' ∧ Fr (Mine o) w w') : PDd F w' b d' ∧ Fr F w w' := by
  obtain ⟨o', v', h1, h2, h3⟩ := h
  refine ⟨⟨o', v', h1, fun k hk => ?_⟩, h3.mono fun k _ hm => hF k hm⟩
  by_cases hl : k < w.heap.size
  · rw [h2 k hl] at hk; exact hF k hk
  · exact hN k (by omega)
theorem ppick_ok (F : Nat → Prop) (w : World) (b : Nat) (d : DeskM) (i : Int) (h : PDd F w b d) (hA : Ask d) (hN : ∀ k, w.heap.size ≤ k → F k) :
    Calls Try.prog 49 #[ptrV b, .int .i64 i] w fun e w' => PStepD F w b (d.pick i).1 (.tuple #[noteA (d.pick i).2.1, .int .i64 (d.pick i).2.2]) e w' := by
  obtain ⟨o, v, h, hF⟩ := h
  refine (pick_pd h (fits_of hA.inv hA.urg hA.bd) (runs_of hA.inv) i).mono fun e w' ⟨h1, o', v', h2, h3, h4, _⟩ => ?_
  rw [pick_eq hA.inv hA.urg] at h1 h2
  exact ⟨h1, stp_F hF hN ⟨o', v', h2, h3, h4⟩⟩
theorem pkill_ok (F : Nat → Prop) (w : World) (b : Nat) (d : DeskM) (i : Int) (h : PDd F w b d) (hA : Ask d) (hN : ∀ k, w.heap.size ≤ k → F k) :
    Calls Try.prog 52 #[ptrV b, .int .i64 i] w fun e w' => PStepD F w b (d.kill i).1 (.int .i64 (d.kill i).2) e w' := by
  obtain ⟨o, v, h, hF⟩ := h
  refine (kill_pd h (fits_of hA.inv hA.urg hA.bd) i).mono fun e w' ⟨h1, o', v', h2, h3, h4, _⟩ => ?_
  rw [kill_eq hA.inv hA.urg] at h1 h2
  exact ⟨h1, stp_F hF hN ⟨o', v', h2, h3, h4⟩⟩
theorem pcancel_ok (F : Nat → Prop) (w : World) (b : Nat) (d : DeskM) (n : Int) (h : PDd F w b d) (hA : Ask d) (hN : ∀ k, w.heap.size ≤ k → F k) :
    Calls Try.prog 54 #[ptrV b, .int .i64 n] w fun e w' => PStepD F w b (d.cancel n).1 (.int .i64 (d.cancel n).2) e w' := by
  obtain ⟨o, v, h, hF⟩ := h
  refine (cancel_pd h (fits_of hA.inv hA.urg hA.bd) n).mono fun e w' ⟨h1, o', v', h2, h3, h4, _⟩ => ?_
  rw [cancel_eq hA.inv] at h1 h2
  exact ⟨h1, stp_F hF hN ⟨o', v', h2, h3, h4⟩⟩
theorem psubmit_ok (F : Nat → Prop) (w : World) (b : Nat) (d : DeskM) (sv : Value) (l : List St) (h : PDd F w b d) (hA : Ask d) (hsv : StepsV w sv l) (hN : ∀ k, w.heap.size ≤ k → F k) :
    Calls Try.prog 47 #[ptrV b, sv] w fun e w' => PStepD F w b (d.submit l).1 (.tuple #[.int .i64 ((d.submit l).2.1 : Int), .int .i64 (d.submit l).2.2]) e w' := by
  obtain ⟨o, v, h, hF⟩ := h
  have hj := hA.bd.1
  have hq := queue_le hA.inv
  refine (submit_pd h (fits_of hA.inv hA.urg hA.bd) (by rw [po_tlen]; omega) (by show d.queue.length ≤ _; omega) sv l hsv).mono fun e w' ⟨h1, o', v', h2, h3, h4⟩ => ?_
  rw [submit_eq hA.inv] at h1 h2
  exact ⟨h1, stp_F hF hN ⟨o', v', h2, h3, h4⟩⟩
end Go.Proofs.Ytlbmcdoldnajoab
