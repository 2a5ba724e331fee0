import Derived.Test.YtlbmcdoldnajoaaKFunJ
import Derived.Test.YtlbmcdoldnajoaaKFunI

namespace Go.Proofs.Ytlbmcdoldnajoaa
open Go.RowKit
/-- the sizes, and a job at least -/
structure KOk1 (N : Nat) (R : RM) : Prop where
  ok : KOk N R
  one : 1 ≤ R.tasks.length
end Go.Proofs.Ytlbmcdoldnajoaa

namespace Go.Proofs.Ytlbmcdoldnajoaa
/-- behind q picks of the worker w: d1 is the desk at which the job n was just handed in -/
def AlQ (d1 : DeskM) (w n : Nat) (l : List St) (g0 : List GoodM) (q : Nat) (d : DeskM) : Prop := (q = 0 ∧ d = d1) ∨ (∃ k, q = k + 1 ∧ Al d w n k l g0) ∨ (1 ≤ q ∧ Ae d n l g0)
theorem alq_next {d0 d : DeskM} (h0 : DInv d0) (ho : ∀ m, d0.Has m → 2 < (d0.job m).state) {l : List St} (hl : jobB l = true) {w : Nat} (hw : w < d0.c.workers) (h : DInv d) (hc : d.c = d0.c) {q : Nat} (ha : AlQ (d0.submit l).1 w (d0.jobs.length + 1) l d0.goods q d) :
    AlQ (d0.submit l).1 w (d0.jobs.length + 1) l d0.goods (q + 1) (d.pick w).1 := by
  rcases ha with ⟨rfl, rfl⟩ | ⟨k, rfl, ha⟩ | ⟨hq, ha⟩
  · exact Or.inr (Or.inl ⟨0, rfl, al_took h0 ho hl hw⟩)
  · rcases al_pick h (by rw [hc]; exact hw) ha with h1 | h1
    · exact Or.inr (Or.inl ⟨k + 1, rfl, h1⟩)
    · exact Or.inr (Or.inr ⟨by omega, h1⟩)
  · exact Or.inr (Or.inr ⟨by omega, ae_pick h (by rw [hc]; exact hw) ha⟩)
theorem mem_open {d : DeskM} {n : Nat} (hn : d.Has n) (h2 : (d.job n).state ≤ 2) : 0 < openN d := by
  unfold openN
  exact List.length_pos_of_mem (List.mem_filter (p := fun j : JobM => decide (j.state ≤ 2)) |>.2 ⟨job_mem hn, decide_eq_true h2⟩)
theorem alq_open {d0 d : DeskM} (h0 : DInv d0) (ho : ∀ m, d0.Has m → 2 < (d0.job m).state) {l : List St} (hl : jobB l = true) {w : Nat} (hw : w < d0.c.workers) (h : DInv d) (hc : d.c = d0.c) {q : Nat} (ha : AlQ (d0.submit l).1 w (d0.jobs.length + 1) l d0.goods q d) (hz : openN d = 0) : Ae d (d0.jobs.length + 1) l d0.goods := by
  rcases ha with ⟨rfl, rfl⟩ | ⟨k, rfl, ha⟩ | ⟨hq, ha⟩
  · exfalso
    have he := congrArg Prod.fst (al_say h0 ho hl)
    have hj : (d0.submit l).1.job (d0.jobs.length + 1) = ⟨l, 1, [], 0, 0, false⟩ := by rw [he]; simp [DeskM.job, List.getD]
    have hh : (d0.submit l).1.Has (d0.jobs.length + 1) := by rw [he]; exact ⟨by omega, by simp⟩
    have := mem_open hh (by rw [hj]; show (1 : Int) ≤ 2; decide)
    omega
  · exfalso
    have ht : (d.wk w).ticket = d0.jobs.length + 1 := by rw [ha.wk]
    have hs := h.work w (by rw [hc]; exact hw) (by rw [ht]; omega)
    rw [ht] at hs
    have := mem_open hs.1 (by rw [hs.2.1]; decide)
    omega
  · exact ha
theorem alq_last {d0 d : DeskM} {l : List St} {w : Nat} (hw : w < d0.c.workers) (h : DInv d) (hc : d.c = d0.c) (ha : AlQ (d0.submit l).1 w (d0.jobs.length + 1) l d0.goods (d0.c.fuel + 2) d) : Ae d (d0.jobs.length + 1) l d0.goods := by
  rcases ha with ⟨h1, _⟩ | ⟨k, hk, ha⟩ | ⟨hq, ha⟩
  · omega
  · exfalso
    have ht : (d.wk w).ticket = d0.jobs.length + 1 := by rw [ha.wk]
    have hs := (h.work w (by rw [hc]; exact hw) (by rw [ht]; omega)).2.2.2.1
    have hd : (d.wk w).done = k := by rw [ha.wk]
    rw [hc] at hs
    omega
  · exact ha
/-- the desk's map, as a list -/
theorem map_list {d : DeskM} (h : DInv d) : vIn (listOf (mapF d.goods)) = mapF d.goods ∧ mapB (listOf (mapF d.goods)) = true := by
  have e : mapF d.goods = chainMap d.goods (List.range d.goods.length) := by have := mapF_take d.goods d.goods.length (Nat.le_refl _); rwa [List.take_length] at this
  rw [e]
  exact chain_list h.g.goods (fun i hi => List.mem_range.1 hi)
/-- what a job that ran alone did is what a Run does -/
theorem ae_run {d0 d : DeskM} (h0 : DInv d0) {n : Nat} {l : List St} (hl : jobB l = true) (ha : Ae d n l d0.goods) (hc : d.c = d0.c) :
    runErr l (listOf (mapF d0.goods)) d0.c.fuel = 0 ∧ runSt l (listOf (mapF d0.goods)) d0.c.fuel = (d.job n).state ∧ runTold l (listOf (mapF d0.goods)) d0.c.fuel = (d.job n).told ∧ runMap l (listOf (mapF d0.goods)) d0.c.fuel = listOf (mapF d.goods) := by
  obtain ⟨m1, m2⟩ := map_list h0
  have hcf := h0.conf
  have hf := run_facts (l := l) (ml := listOf (mapF d0.goods)) (f := (d0.c.fuel : Int)) hl m2 (by omega) (by omega)
  have hmo : runMo l (listOf (mapF d0.goods)) (d0.c.fuel : Int) = play l (mapF d0.goods) d0.c.fuel mo0 := by unfold runMo; rw [m1, Int.toNat_natCast]
  rw [hmo, m1] at hf
  refine ⟨hf.1, ?_, ?_, ?_⟩
  · rw [hf.2.2.1, ha.state, hc]
  · rw [hf.2.2.2.1, ha.told, hc]
  · rw [hf.2.2.2.2, ha.map, hc]
end Go.Proofs.Ytlbmcdoldnajoaa
