import Derived.Test.YtlbmcdoldnajoaaPFunM
import Derived.Test.YtlbmcdoldnajoaaProgW
import Derived.Test.YtlbmcdoldnajoaaProgR

namespace Go.Proofs.Ytlbmcdoldnajoaa
open Go.RowKit
theorem play_moOk {l : List St} (hj : jobB l = true) {m : Int → Int} (hm : ∀ k, m k ≤ 9999) : ∀ (n : Nat) (x : Mo), MoOk l.length x → MoOk l.length (play l m n x)
  | 0, x, h => h
  | n + 1, x, h => by
    by_cases hc : x.fin = 0 ∧ x.pc < l.length
    · rw [play_go hc]
      exact play_moOk hj hm n _ (stp_ok h hc.2 hm ((jobB_at hj).2 _ hc.2))
    · rw [play_end hc]; exact h
theorem aX_ok {d : DeskM} (h : DInv d) {i : Nat} (hi : i < d.c.workers) (hi0 : (d.wk i).ticket ≠ 0) : MoOk (d.job (d.wk i).ticket).steps.length (d.aX (d.wk i)) := by
  obtain ⟨hn, _, hb, _⟩ := h.work i hi hi0
  exact play_moOk (h.jobs _ hn).1 (fun k => mapF_le h.g hb k) _ _ (mo0_ok _)
theorem runU_sub {d : DeskM} (h : DInv d) {n : Nat} (hn : n ∈ runU d) : d.Has n := by
  unfold runU at hn
  obtain ⟨a, ha, rfl⟩ := List.mem_map.1 hn
  have ha' := List.mem_filter.1 ha
  obtain ⟨i, hi, rfl⟩ := wk_at ha'.1
  have hp := ha'.2
  rw [Bool.and_eq_true] at hp
  exact (h.work i (by rw [← h.wlen]; exact hi) (of_decide_eq_true hp.1)).1
theorem runU_len (d : DeskM) : (runU d).length ≤ d.workers.length := by
  unfold runU
  rw [List.length_map]
  exact List.length_filter_le _ _
theorem po_tlen (d : DeskM) : (progOf d).tasks.length = d.jobs.length := by show (d.jobs.map taskOf).length = _; simp
theorem po_wlen (d : DeskM) : (progOf d).workers.length = d.workers.length := by show (d.workers.map (wkOf d)).length = _; simp
theorem fits_of {d : DeskM} (h : DInv d) (u : UInv d) (hb : Bd 999999990 d) : Fits (progOf d) := by
  have hc := h.conf
  have hg := goods_le h
  have hq := queue_le h
  have hu := urgent_le h
  have hr := runU_len d
  have hl := h.wlen
  have hj := hb.1
  refine ⟨by rw [po_tlen]; omega, ⟨by show d.queue.length ≤ _; omega, fun n hn => ?_⟩, ⟨?_, fun n hn => ?_⟩, ?_, by show d.goods.length ≤ _; omega, by rw [po_wlen]; omega, fun i hi => ?_, fun i hi => ?_, fun i hi => ?_⟩
  · rw [po_tlen]; exact ((h.quM n).1 hn).1
  · show (runU d ++ d.urgent).length ≤ _
    rw [List.length_append]; omega
  · rw [po_tlen]
    have hn' : n ∈ runU d ++ d.urgent := hn
    rcases List.mem_append.1 hn' with hn | hn
    · exact runU_sub h hn
    · exact ((h.urM n).1 hn).1
  · show (knownOf d.goods _).length ≤ _
    rw [known_len]; omega
  · rw [po_wlen, h.wlen] at hi
    rw [po_wk, po_tlen]
    by_cases h0 : (d.wk i).ticket = 0
    · unfold wkOf; rw [if_pos h0]; exact Nat.zero_le _
    · rw [looked_at h0]; exact (h.work i hi h0).1.2
  · rw [po_wlen, h.wlen] at hi
    rw [po_wk]
    by_cases h0 : (d.wk i).ticket = 0
    · unfold wkOf; rw [if_pos h0]; exact Nat.zero_le _
    · rw [looked_at h0]
      have h1 := (aX_ok h hi h0).told
      have h2 := h.work i hi h0
      show (d.aX (d.wk i)).told.length ≤ 1000
      omega
  · rw [po_tlen] at hi
    have hhas : d.Has (i + 1) := ⟨by omega, by omega⟩
    have := po_task d (i + 1)
    have e : (progOf d).tasks.getD i task0 = taskOf (d.job (i + 1)) := this
    rw [e]
    have h1 := hb.job (i + 1)
    have h2 := u.few (i + 1) hhas
    exact ⟨by show (d.job (i + 1)).tries ≤ _; omega, by show (d.job (i + 1)).failed ≤ _; omega⟩
theorem runs_of {d : DeskM} (h : DInv d) (i : Nat) (hi : i < (progOf d).workers.length) (hi0 : ((progOf d).wk i).ticket ≠ 0) : RunsOk (progOf d) i := by
  rw [po_wlen, h.wlen] at hi
  rw [po_wk] at hi0
  have h0 : (d.wk i).ticket ≠ 0 := fun e => by unfold wkOf at hi0; rw [if_pos e] at hi0; exact hi0 rfl
  obtain ⟨hn, hs2, hbg, hdf, hfin, hdone⟩ := h.work i hi h0
  have hc := h.conf
  have hts : ((progOf d).task (d.wk i).ticket).steps = (d.job (d.wk i).ticket).steps := by
    rw [po_task]; unfold taskOf; simp [hs2]
  have hok := aX_ok h hi h0
  refine ⟨?_, ?_, ?_, ?_, ?_, ?_, ?_⟩
  · rw [po_wk, looked_at h0]
  · rw [po_wk, looked_at h0]; exact hfin
  · rw [po_wk, looked_at h0]; show (d.aX (d.wk i)).done ≤ d.c.fuel; omega
  · show d.c.fuel ≤ 200; omega
  · rw [po_wk, looked_at h0]; simp only; rw [hts]; exact hok
  · rw [po_wk, looked_at h0]; simp only; rw [hts]; exact (h.jobs _ hn).1
  · rw [po_wk, looked_at h0]; exact fun k => mapF_le h.g hbg k
/-- what is asked ahead of a call -/
structure Ask (d : DeskM) : Prop where
  inv : DInv d
  urg : UInv d
  bd : Bd 999999990 d
/-- what a call of the program's desk leaves -/
def PStepD (F : Nat → Prop) (w : World) (b : Nat) (d' : DeskM) (r : Value) (e : Ending) (w' : World) : Prop := e = .returned r ∧ PDd F w' b d' ∧ Fr F w w'
theorem stp_F {o : Nat → Option Nat} {F : Nat → Prop} {w w' : World} {b : Nat} {d' : DeskM} (hF : ∀ k, o k ≠ none → F k) (hN : ∀ k, w.heap.size ≤ k → F k) (h : ∃ o' v', PD o' w' b (progOf d') v' ∧ Own w o o' ∧ Fr (Mine o) w w') : PDd F w' b d' ∧ Fr F w w' := by
  obtain ⟨o', v', h1, h2, h3⟩ := h
  refine ⟨⟨o', v', h1, fun k hk => ?_⟩, h3.mono fun k _ hm => hF k hm⟩
  by_cases hl : k < w.heap.size
  · rw [h2 k hl] at hk; exact hF k hk
  · exact hN k (by omega)
theorem ppick_ok (F : Nat → Prop) (w : World) (b : Nat) (d : DeskM) (i : Int) (h : PDd F w b d) (hA : Ask d) (hN : ∀ k, w.heap.size ≤ k → F k) :
    Calls Try.prog 70 #[ptrV b, .int .i64 i] w fun e w' => PStepD F w b (d.pick i).1 (.tuple #[noteA (d.pick i).2.1, .int .i64 (d.pick i).2.2]) e w' := by
  obtain ⟨o, v, h, hF⟩ := h
  refine (pick_pd h (fits_of hA.inv hA.urg hA.bd) (runs_of hA.inv) i).mono fun e w' ⟨h1, o', v', h2, h3, h4, _⟩ => ?_
  rw [pick_eq hA.inv hA.urg] at h1 h2
  exact ⟨h1, stp_F hF hN ⟨o', v', h2, h3, h4⟩⟩
theorem psubmit_ok (F : Nat → Prop) (w : World) (b : Nat) (d : DeskM) (sv : Value) (l : List St) (h : PDd F w b d) (hA : Ask d) (hsv : StepsV w sv l) (hN : ∀ k, w.heap.size ≤ k → F k) :
    Calls Try.prog 68 #[ptrV b, sv] w fun e w' => PStepD F w b (d.submit l).1 (.tuple #[.int .i64 ((d.submit l).2.1 : Int), .int .i64 (d.submit l).2.2]) e w' := by
  obtain ⟨o, v, h, hF⟩ := h
  have hj := hA.bd.1
  have hq := queue_le hA.inv
  refine (submit_pd h (fits_of hA.inv hA.urg hA.bd) (by rw [po_tlen]; omega) (by show d.queue.length ≤ _; omega) sv l hsv).mono fun e w' ⟨h1, o', v', h2, h3, h4⟩ => ?_
  rw [submit_eq hA.inv] at h1 h2
  exact ⟨h1, stp_F hF hN ⟨o', v', h2, h3, h4⟩⟩
end Go.Proofs.Ytlbmcdoldnajoaa

namespace Go.Proofs.Ytlbmcdoldnajoaa
def tot (f : Nat → Nat) : Nat → Nat
  | 0 => 0
  | k + 1 => tot f k + f (k + 1)
theorem tot_le {f g : Nat → Nat} : ∀ k, (∀ m, 1 ≤ m → m ≤ k → f m ≤ g m) → tot f k ≤ tot g k
  | 0, _ => Nat.le_refl _
  | k + 1, h => Nat.add_le_add (tot_le k (fun m h1 h2 => h m h1 (by omega))) (h (k + 1) (by omega) (Nat.le_refl _))
theorem wk_mem {d : DeskM} (h : d.workers.length = d.c.workers) {a : AttM} (ha : a ∈ d.workers) : ∃ i, i < d.c.workers ∧ d.wk i = a := by
  obtain ⟨i, hi, rfl⟩ := List.getElem_of_mem ha
  exact ⟨i, by omega, by simp [DeskM.wk, List.getD, hi]⟩
theorem wk_in {d : DeskM} (h : d.workers.length = d.c.workers) {i : Nat} (hi : i < d.c.workers) : d.wk i ∈ d.workers := by
  have hlt : i < d.workers.length := by omega
  have : d.wk i = d.workers[i] := by simp [DeskM.wk, List.getD, hlt]
  rw [this]; exact List.getElem_mem _
end Go.Proofs.Ytlbmcdoldnajoaa

namespace Go.Proofs.Ytlbmcdoldnajoaa
theorem failed_cw (d : DeskM) (n p : Nat) : (d.failedJ n p).1.c = d.c ∧ (d.failedJ n p).1.workers = d.workers := by
  unfold DeskM.failedJ
  simp only
  split <;> exact ⟨rfl, rfl⟩
theorem looked_cw (d : DeskM) (i : Nat) (x : Mo) (s : Int) : (d.looked i x s).1.c = d.c ∧ (d.looked i x s).1.workers = d.workers.set i att0 := by
  unfold DeskM.looked
  simp only
  obtain ⟨t, ht⟩ : ∃ t : GoodM, t = ⟨(d.workers.getD i att0).ticket, (d.workers.getD i att0).beg, x.read, if s = 3 then x.puts else fun _ => none⟩ := ⟨_, rfl⟩
  rw [← ht]
  split
  · exact failed_cw _ _ _
  · exact ⟨rfl, rfl⟩
theorem looked_c (d : DeskM) (i : Nat) (x : Mo) (s : Int) : (d.looked i x s).1.c = d.c := (looked_cw d i x s).1
theorem pick_c (d : DeskM) (i : Int) : (d.pick i).1.c = d.c := by
  unfold DeskM.pick
  split
  · rfl
  · split
    · unfold DeskM.taken
      simp only
      split <;> rfl
    · unfold DeskM.goes
      simp only
      split
      · exact looked_c _ _ _ _
      · split
        · exact looked_c _ _ _ _
        · split
          · exact looked_c _ _ _ _
          · rfl
/-- where no worker runs an attempt and a job is open, an idle worker finds one -/
theorem next_some {d : DeskM} (h : DInv d) (hid : ∀ i, i < d.c.workers → (d.wk i).ticket = 0) {n : Nat} (hn : d.Has n) (h2 : (d.job n).state ≤ 2) : d.nextJob ≠ 0 := by
  have hno2 : ∀ m, d.Has m → (d.job m).state ≠ 2 := fun m hm e => by
    obtain ⟨i, hi, ht⟩ := h.runs m hm e
    rw [hid i hi] at ht
    have := hm.1; omega
  have hidle : d.idle = true := by
    unfold DeskM.idle
    rw [List.all_eq_true]
    intro j hj
    obtain ⟨k, hk, rfl⟩ := List.getElem_of_mem hj
    have := hno2 (k + 1) ⟨by omega, by omega⟩
    have e : d.job (k + 1) = d.jobs[k] := by simp [DeskM.job, List.getD, hk]
    rw [e] at this
    simpa using this
  have hhead : ∀ {l : List Nat} {m : Nat}, m ∈ l → (∀ x ∈ l, 1 ≤ x) → l.getD 0 0 ≠ 0 := fun {l m} hm hx => by
    cases l with
    | nil => simp at hm
    | cons a r => have := hx a (by simp); simp; omega
  have hone : ∀ m, d.Has m → (d.job m).state ≤ 2 → (d.job m).state = 1 := fun m hm hs => by have := (h.jobs m hm).2.1; have := hno2 m hm; omega
  unfold DeskM.nextJob
  by_cases hh : d.hurry = true
  · rw [if_pos (by rw [hh, hidle]; rfl)]
    unfold DeskM.hurry at hh
    rw [List.any_eq_true] at hh
    obtain ⟨j, hj, hjj⟩ := hh
    obtain ⟨k, hk, rfl⟩ := List.getElem_of_mem hj
    have e : d.job (k + 1) = d.jobs[k] := by simp [DeskM.job, List.getD, hk]
    rw [← e, Bool.and_eq_true] at hjj
    have hm : d.Has (k + 1) := ⟨by omega, by omega⟩
    exact hhead ((h.urM (k + 1)).2 ⟨hm, hone _ hm (by simpa using hjj.2), hjj.1⟩) (fun x hx => ((h.urM x).1 hx).1.1)
  · have hf : d.hurry = false := by simpa using hh
    rw [if_neg (by rw [hf]; simp), if_pos hf]
    have hu : (d.job n).urgent = false := by
      cases e : (d.job n).urgent
      · rfl
      · exact absurd (hurry_yes hn h2 e) hh
    exact hhead ((h.quM n).2 ⟨hn, hone n hn h2, hu⟩) (fun x hx => ((h.quM x).1 hx).1.1)
end Go.Proofs.Ytlbmcdoldnajoaa
