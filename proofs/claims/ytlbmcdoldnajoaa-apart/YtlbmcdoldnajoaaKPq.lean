import Derived.Test.YtlbmcdoldnajoaaKPp
import Derived.Test.YtlbmcdoldnajoaaKFunI

namespace Go.Proofs.Ytlbmcdoldnajoaa
theorem pickR_tk (R : RM) (i n : Nat) : ((R.pickR i).tk n).steps = (R.tk n).steps ∧ ((R.pickR i).tk n).gone = (R.tk n).gone := by
  unfold RM.pickR
  generalize (R.d.pick i).1 = e
  generalize (R.d.pick i).2.1.1 = k
  generalize (R.d.pick i).2.1.2.1 = q
  generalize (R.d.pick i).2.1.2.2 = p
  unfold RM.pickN
  split
  · exact ⟨rfl, rfl⟩
  · split
    · exact ⟨rfl, rfl⟩
    · split
      · simp only [RM.tk, List.getD, List.getElem?_set]
        split
        · rename_i h
          split
          · rename_i hl
            simp [h] at hl ⊢
          · rename_i hl
            rw [h] at hl
            rw [List.getElem?_eq_none (Nat.le_of_not_lt hl)]
            exact ⟨rfl, rfl⟩
        · exact ⟨rfl, rfl⟩
      · exact ⟨rfl, rfl⟩
/-- the first job is the law's first, and none was cancelled -/
structure ApT (R : RM) : Prop where
  one : (R.tk 1).steps = fJ
  gone : ∀ n, (R.tk n).gone = false
theorem apt_pick {R : RM} (h : ApT R) (i : Nat) : ApT (R.pickR i) := ⟨by rw [(pickR_tk R i 1).1]; exact h.one, fun n => by rw [(pickR_tk R i n).2]; exact h.gone n⟩
theorem sayR_open {R : RM} {l : List St} (h : ¬ R.d.c.queue ≤ R.d.waiting) : R.sayR l = { R with d := (R.d.submit l).1, tasks := R.tasks ++ [⟨l, 0, 0, false, []⟩] } := by unfold RM.sayR; rw [if_neg h]
theorem tk_app {R : RM} {l : List St} {d : DeskM} (n : Nat) (hn : 1 ≤ n) : ({ R with d := d, tasks := R.tasks ++ [⟨l, 0, 0, false, []⟩] } : RM).tk n = if n ≤ R.tasks.length then R.tk n else if n = R.tasks.length + 1 then ⟨l, 0, 0, false, []⟩ else tk0 := by
  unfold RM.tk
  simp only [List.getD]
  by_cases h : n ≤ R.tasks.length
  · rw [if_pos h, List.getElem?_append_left (by omega)]
  · rw [if_neg h]
    by_cases h2 : n = R.tasks.length + 1
    · rw [if_pos h2, h2]; simp
    · rw [if_neg h2, List.getElem?_eq_none (by simp; omega)]; rfl
theorem run5_apt {c : ConfM} (xb : Nat) (hc : (1 ≤ c.workers ∧ c.workers ≤ 4) ∧ (1 ≤ c.queue ∧ c.queue ≤ 8) ∧ (1 ≤ c.fuel ∧ c.fuel ≤ 200) ∧ c.patience ≤ 5) (k : Nat) : ApT (run5 c xb k) := by
  induction k with
  | zero =>
    have hw : (run0 c xb).d.waiting = 0 := rfl
    have e : run5 c xb 0 = (run0 c xb).sayR fJ := rfl
    rw [e, sayR_open (by rw [hw]; show ¬ c.queue ≤ 0; omega)]
    refine ⟨rfl, fun n => ?_⟩
    unfold RM.tk
    simp only [run0, List.nil_append]
    generalize n - 1 = q
    cases q <;> rfl
  | succ k ih => exact apt_pick ih 0
theorem run5_api {c : ConfM} (xb : Nat) (hc : (1 ≤ c.workers ∧ c.workers ≤ 4) ∧ (1 ≤ c.queue ∧ c.queue ≤ 8) ∧ (1 ≤ c.fuel ∧ c.fuel ≤ 200) ∧ c.patience ≤ 5) (hf : 3 ≤ c.fuel) : ApI (run5 c xb 5) := by
  have hk := (run5_ok xb hc hf 5).1.k
  have ho := run5_out xb hc hf
  have hl := run5_len xb hc hf 5
  have hov := (run5_end xb hc hf).over
  have h1 : (run5 c xb 5).d.Has 1 := (run5_end xb hc hf).has
  have hn1 : ∀ n, (run5 c xb 5).d.Has n → n = 1 := fun n hn => by
    have a := hn.1
    have b := hn.2
    omega
  obtain ⟨i, hi, ht⟩ := hk.inv.g.gall 1 h1 ⟨by rw [ho.1]; omega, by rw [ho.1]; omega⟩
  have hgl := goods_le hk.inv
  have hi0 : i = 0 := by omega
  subst hi0
  refine ⟨by omega, ⟨by omega, ht⟩, fun q h2 h3 => by omega, fun q hq h0 => absurd (over_idle hk.inv hov hq) h0, fun n hn h2 => by have := hn1 n hn; omega, fun n hn => by rw [hn1 n hn]; exact ho.2.2.2.1, fun n hn => ?_⟩
  rw [hn1 n hn, ho.1, ho.2.2.1]
  rfl
theorem ap_wait {R : RM} (h : KInv R) (a : ApI R) : R.d.waiting + 1 ≤ R.d.jobs.length := by
  have h1 := over_cnt h.inv
  have h2 := split4 R.d.jobs (states h.inv)
  have h3 := a.goods.1
  unfold DeskM.waiting
  omega
/-- one more is handed in -/
theorem ap_say {R : RM} (h : KInv R) (a : ApI R) (t : ApT R) {i : Nat} (hi : R.d.jobs.length = i + 1) (hi3 : i < 3) (hq : i < R.d.c.queue) {l : List St} (hl : jobB l = true) (hap : ∀ s ∈ l, ApJ (4 * i) s) :
    ApI (R.sayR l) ∧ ApT (R.sayR l) ∧ (R.sayR l).d.jobs.length = i + 1 + 1 ∧ (R.sayR l).d.c = R.d.c := by
  have hw := ap_wait h a
  have hno : ¬ R.d.c.queue ≤ R.d.waiting := by omega
  rw [sayR_open hno]
  have hs : (R.d.submit l).1 = { R.d with jobs := R.d.jobs ++ [⟨l, 1, [], 0, 0, false⟩], queue := R.d.queue ++ [R.d.jobs.length + 1] } := by
    unfold DeskM.submit
    rw [if_neg (by rw [hl]; simp), if_neg hno]
  rw [hs]
  have hj : ∀ n, 1 ≤ n → n ≤ i + 1 → ({ R.d with jobs := R.d.jobs ++ [⟨l, 1, [], 0, 0, false⟩], queue := R.d.queue ++ [R.d.jobs.length + 1] } : DeskM).job n = R.d.job n := fun n h1 h2 => by
    unfold DeskM.job
    simp only [List.getD]
    rw [List.getElem?_append_left (by omega)]
  have hj2 : ({ R.d with jobs := R.d.jobs ++ [⟨l, 1, [], 0, 0, false⟩], queue := R.d.queue ++ [R.d.jobs.length + 1] } : DeskM).job (i + 1 + 1) = ⟨l, 1, [], 0, 0, false⟩ := by
    unfold DeskM.job
    simp only [List.getD]
    rw [show i + 1 + 1 - 1 = R.d.jobs.length by omega]
    simp
  have hlen : (R.d.jobs ++ [(⟨l, 1, [], 0, 0, false⟩ : JobM)]).length = i + 1 + 1 := by simp [hi]
  have hh : ∀ n, ({ R.d with jobs := R.d.jobs ++ [⟨l, 1, [], 0, 0, false⟩], queue := R.d.queue ++ [R.d.jobs.length + 1] } : DeskM).Has n → R.d.Has n ∧ n ≤ i + 1 ∨ n = i + 1 + 1 := fun n hn => by
    have h1 : 1 ≤ n := hn.1
    have h2 : n ≤ (R.d.jobs ++ [(⟨l, 1, [], 0, 0, false⟩ : JobM)]).length := hn.2
    rw [hlen] at h2
    by_cases e : n ≤ i + 1
    · exact Or.inl ⟨⟨h1, by omega⟩, e⟩
    · exact Or.inr (by omega)
  refine ⟨⟨by show (R.d.jobs ++ _).length ≤ 4; omega, a.goods, a.beg, a.run, fun n hn h2 => ?_, fun n hn => ?_, fun n hn => ?_⟩, ⟨?_, fun n => ?_⟩, hlen, rfl⟩
  · rcases hh n hn with ⟨h1, h3⟩ | rfl
    · show ∀ s ∈ (DeskM.job _ n).steps, _
      rw [hj n h1.1 h3]; exact a.steps n h1 h2
    · show ∀ s ∈ (DeskM.job _ (i + 1 + 1)).steps, _
      rw [hj2]
      exact hap
  · rcases hh n hn with ⟨h1, h3⟩ | rfl
    · show (DeskM.job _ n).failed = 0
      rw [hj n h1.1 h3]; exact a.failed n h1
    · show (DeskM.job _ (i + 1 + 1)).failed = 0
      rw [hj2]
  · rcases hh n hn with ⟨h1, h3⟩ | rfl
    · show (DeskM.job _ n).tries = if (DeskM.job _ n).state = 1 then 0 else 1
      rw [hj n h1.1 h3]; exact a.tries n h1
    · show (DeskM.job _ (i + 1 + 1)).tries = if (DeskM.job _ (i + 1 + 1)).state = 1 then 0 else 1
      rw [hj2]
      rfl
  · rw [tk_app 1 (Nat.le_refl _), if_pos (by rw [h.len, hi]; omega)]
    exact t.one
  · by_cases h1 : 1 ≤ n
    · rw [tk_app n h1]
      split
      · exact t.gone n
      · split <;> rfl
    · have e : n = 0 := by omega
      have h2 : (({ R with d := { R.d with jobs := R.d.jobs ++ [⟨l, 1, [], 0, 0, false⟩], queue := R.d.queue ++ [R.d.jobs.length + 1] }, tasks := R.tasks ++ [⟨l, 0, 0, false, []⟩] } : RM).tk n) = (({ R with d := { R.d with jobs := R.d.jobs ++ [⟨l, 1, [], 0, 0, false⟩], queue := R.d.queue ++ [R.d.jobs.length + 1] }, tasks := R.tasks ++ [⟨l, 0, 0, false, []⟩] } : RM).tk 1) := by rw [e]; rfl
      rw [h2, tk_app 1 (Nat.le_refl _), if_pos (by rw [h.len, hi]; omega)]
      exact t.gone 1
theorem ap_again {R : RM} (h : KInv R) (a : ApI R) : R.again = 0 := by
  rw [h.again]
  have := tot_bd (f := fun n => (R.d.job n).failed) (c := 0) R.d.jobs.length (fun m h1 h2 => Nat.le_of_eq (a.failed m ⟨h1, h2⟩))
  omega
/-- what the last loop sees: M n is the map behind the n first jobs -/
def ApM (R : RM) (M : Nat → List (Int × Int)) (n : Nat) : Prop :=
  runErr (R.tk (n + 1)).steps (M n) R.d.c.fuel = 0 ∧ runTries (R.tk (n + 1)).steps (M n) R.d.c.fuel = 1 ∧ runSt (R.tk (n + 1)).steps (M n) R.d.c.fuel = (R.d.job (n + 1)).state ∧ runTold (R.tk (n + 1)).steps (M n) R.d.c.fuel = (R.d.job (n + 1)).told ∧ runMap (R.tk (n + 1)).steps (M n) R.d.c.fuel = M (n + 1) ∧ (R.d.job (n + 1)).tries = 1
theorem ap_last {R : RM} (h : KInv R) (a : ApI R) (t : ApT R) (ho : openN R.d = 0) {c : ConfM} (hcc : R.d.c = c) (hc : (1 ≤ c.workers ∧ c.workers ≤ 4) ∧ (1 ≤ c.queue ∧ c.queue ≤ 8) ∧ (1 ≤ c.fuel ∧ c.fuel ≤ 200) ∧ c.patience ≤ 5) (hf : 3 ≤ c.fuel) :
    ∃ M : Nat → List (Int × Int), M 1 = [(3, 7)] ∧ M R.d.jobs.length = listOf (mapF R.d.goods) ∧ ∀ n, n < R.d.jobs.length → ApM R M n := by
  have hnc : ∀ n, R.d.Has n → (R.d.job n).state ≠ 6 := fun n hn e => by
    have h1 := h.gone n hn
    rw [t.gone n, e] at h1
    simp at h1
  obtain ⟨σ, s1, s2, s3, s4⟩ := ap_end h a ho hnc
  have hlt : ∀ n, ∀ i ∈ σ.take n, i < R.d.goods.length := fun n i hi => by
    obtain ⟨q, hq, e⟩ := List.getElem_of_mem (List.mem_of_mem_take hi)
    have := (s2 q (by omega)).1
    rw [List.getD, List.getElem?_eq_getElem hq, e] at this
    exact this
  have hj0 : 0 < R.d.jobs.length := by have := a.goods.1; have := goods_le h.inv; omega
  refine ⟨fun n => listOf (chainMap R.d.goods (σ.take n)), ?_, ?_, fun n hn => ?_⟩
  · have h4 := s4 0 hj0
    have hst : (R.d.job (0 + 1)).steps = fJ := by rw [← h.steps 1 ⟨Nat.le_refl _, hj0⟩]; exact t.one
    have e0 : chainMap R.d.goods (σ.take 0) = mapF [] := rfl
    rw [hst, e0, hcc] at h4
    have h5 := (run5_end 0 hc hf).map
    rw [(run5_ok 0 hc hf 5).2, h4.1, h4.2] at h5
    have h6 := (run5_out 0 hc hf).2.2.2.2.1
    rw [h5] at h6
    exact h6
  · show listOf (chainMap R.d.goods (σ.take R.d.jobs.length)) = _
    rw [← s1, List.take_length, s3]
  · obtain ⟨h1, h2⟩ := s4 n hn
    obtain ⟨q1, q2⟩ := s2 n hn
    obtain ⟨g1, g2, g3⟩ := h.inv.g.gjob _ q1
    obtain ⟨c1, c2⟩ := chain_list h.inv.g.goods (τ := σ.take n) (hlt n)
    rw [q2] at g2 g3
    have hhas : R.d.Has (n + 1) := ⟨by omega, by omega⟩
    have hst : (R.tk (n + 1)).steps = (R.d.job (n + 1)).steps := h.steps _ hhas
    have hgl : R.d.gL (σ.getD n 0) = (R.d.job (n + 1)).steps := by unfold DeskM.gL; rw [q2]
    have hjb : jobB (R.d.job (n + 1)).steps = true := (h.inv.jobs _ hhas).1
    have hcf := h.inv.conf
    have hrf := run_facts (l := (R.d.job (n + 1)).steps) (ml := listOf (chainMap R.d.goods (σ.take n))) (f := (R.d.c.fuel : Int)) hjb c2 (by omega) (by omega)
    have hmo : runMo (R.d.job (n + 1)).steps (listOf (chainMap R.d.goods (σ.take n))) (R.d.c.fuel : Int) = R.d.gX (σ.getD n 0) := by
      unfold runMo
      rw [c1, Int.toNat_natCast, h1]
    rw [hmo, c1, h2] at hrf
    have htr := a.tries _ hhas
    rw [if_neg (by have := open_zero ho hhas; omega)] at htr
    unfold ApM
    rw [hst]
    rw [hgl] at g2
    exact ⟨hrf.1, hrf.2.1, by rw [hrf.2.2.1, g2], by rw [hrf.2.2.2.1, g3], hrf.2.2.2.2, htr⟩
end Go.Proofs.Ytlbmcdoldnajoaa
