import Derived.Test.YtlbmcdoldnajoaaKFunG
import Derived.Test.YtlbmcdoldnajoaaKPm

namespace Go.Proofs.Ytlbmcdoldnajoaa
open Go.RowKit
section
variable {o : Nat → Option Nat} {w : World} {b : Nat} {R : RM} {v : KV}
theorem pickR_c (R : RM) (i : Nat) : (R.pickR i).d.c = R.d.c := by rw [pickR_d, pick_c]
theorem open_n {o1 : Nat → Option Nat} {W : World} {R1 : RM} {v1 : KV} {N : Nat} (h : KP o1 W b R1 v1) (hk : KOk N R1) (hN : N ≤ 900000000) :
    Calls Try.prog 35 #[.pointer (some ⟨b, 0, none⟩)] W fun e w' => e = .returned (.int .i64 (openN R1.d : Int)) ∧ ∃ m, w' = W.drewN m := by
  have := open_q h (hk.sm hN)
  rw [open_eq hk.k] at this
  exact this
end
end Go.Proofs.Ytlbmcdoldnajoaa

namespace Go.Proofs.Ytlbmcdoldnajoaa
/-- the job n, whose steps are l, runs alone at the worker w, k steps done, over the attempts g0 -/
structure Al (d : DeskM) (w n k : Nat) (l : List St) (g0 : List GoodM) : Prop where
  wk : d.wk w = ⟨n, g0.length, k⟩
  goods : d.goods = g0
  has : d.Has n
  steps : (d.job n).steps = l
  tries : (d.job n).tries = 1
  failed : (d.job n).failed = 0
  rest : ∀ m, d.Has m → m ≠ n → 2 < (d.job m).state
/-- it has run so -/
structure Ae (d : DeskM) (n : Nat) (l : List St) (g0 : List GoodM) : Prop where
  has : d.Has n
  over : ∀ m, d.Has m → 2 < (d.job m).state
  state : (d.job n).state = endState l (play l (mapF g0) d.c.fuel mo0)
  told : (d.job n).told = (play l (mapF g0) d.c.fuel mo0).told
  tries : (d.job n).tries = 1
  failed : (d.job n).failed = 0
  map : mapF d.goods = mapAfter l (mapF g0) (play l (mapF g0) d.c.fuel mo0)
theorem over_idle {d : DeskM} (h : DInv d) (ho : ∀ m, d.Has m → 2 < (d.job m).state) {i : Nat} (hi : i < d.c.workers) : (d.wk i).ticket = 0 := by
  refine Classical.byContradiction fun h0 => ?_
  have hw := h.work i hi h0
  have := ho _ hw.1
  rw [hw.2.1] at this
  omega
theorem over_next {d : DeskM} (h : DInv d) (ho : ∀ m, d.Has m → 2 < (d.job m).state) : d.nextJob = 0 := by
  refine Classical.byContradiction fun h0 => ?_
  rcases next_mem h0 with hm | hm
  · have := (h.urM _).1 hm
    have := ho _ this.1
    omega
  · have := (h.quM _).1 hm
    have := ho _ this.1
    omega
theorem over_pick {d : DeskM} (h : DInv d) (ho : ∀ m, d.Has m → 2 < (d.job m).state) {i : Nat} (hi : i < d.c.workers) : (d.pick i).1 = d := by
  obtain ⟨_, hc⟩ := pick_cases h hi
  have h0 := over_idle h ho hi
  have hn := over_next h ho
  cases hc with
  | rest _ _ he _ _ _ => exact he
  | took _ hn' hn0 _ _ _ => exact absurd (hn'.trans hn) hn0
  | step h1 hn0 _ _ _ => exact absurd (h1.symm.trans h0) hn0
  | good h1 hn0 _ _ _ _ _ _ _ _ _ => exact absurd (h1.symm.trans h0) hn0
  | fail h1 hn0 _ _ _ _ _ _ _ _ _ _ _ _ _ _ _ _ => exact absurd (h1.symm.trans h0) hn0
theorem over_wait {d : DeskM} (h : DInv d) (ho : ∀ m, d.Has m → 2 < (d.job m).state) : d.waiting = 0 := by
  rw [waitingD_eq h]
  have h1 : d.queue = [] := List.eq_nil_iff_forall_not_mem.2 fun n hn => by
    have := (h.quM n).1 hn
    have := ho _ this.1
    omega
  have h2 : d.urgent = [] := List.eq_nil_iff_forall_not_mem.2 fun n hn => by
    have := (h.urM n).1 hn
    have := ho _ this.1
    omega
  rw [h1, h2]; rfl
/-- a job is handed in where all are over -/
theorem al_say {d : DeskM} (h : DInv d) (ho : ∀ m, d.Has m → 2 < (d.job m).state) {l : List St} (hl : jobB l = true) :
    d.submit l = ({ d with jobs := d.jobs ++ [⟨l, 1, [], 0, 0, false⟩], queue := d.queue ++ [d.jobs.length + 1] }, d.jobs.length + 1, 0) := by
  unfold DeskM.submit
  have := over_wait h ho
  have := h.conf
  rw [if_neg (by rw [hl]; simp), if_neg (by omega)]
/-- it is taken -/
theorem al_took {d : DeskM} (h : DInv d) (ho : ∀ m, d.Has m → 2 < (d.job m).state) {l : List St} (hl : jobB l = true) {w : Nat} (hw : w < d.c.workers) :
    Al ((d.submit l).1.pick w).1 w (d.jobs.length + 1) 0 l d.goods := by
  have hd := h.submit l
  have he := congrArg Prod.fst (al_say h ho hl)
  simp only at he
  generalize (d.submit l).1 = e at *
  obtain ⟨n, hn⟩ : ∃ n, n = d.jobs.length + 1 := ⟨_, rfl⟩
  rw [← hn] at he ⊢
  have hjl : e.jobs.length = n := by rw [he, hn]; simp
  have hnew : e.job n = ⟨l, 1, [], 0, 0, false⟩ := by rw [he, hn]; simp [DeskM.job, List.getD]
  have hold : ∀ m, d.Has m → e.job m = d.job m := fun m hm => by
    have h1 := hm.1
    have h2 := hm.2
    rw [he]
    simp only [DeskM.job, List.getD]
    rw [List.getElem?_append_left (by omega)]
  have hcase : ∀ m, e.Has m → m ≠ n → 2 < (e.job m).state := fun m hm hne => by
    have h1 := hm.1
    have h2 := hm.2
    have hdm : d.Has m := ⟨h1, by omega⟩
    rw [hold m hdm]
    exact ho m hdm
  have hec : e.c = d.c := by rw [he]
  have heg : e.goods = d.goods := by rw [he]
  have hew : e.workers = d.workers := by rw [he]
  have hhas : e.Has n := ⟨by omega, by omega⟩
  have hid : ∀ i, i < e.c.workers → (e.wk i).ticket = 0 := fun i hi => by
    have : e.wk i = d.wk i := by unfold DeskM.wk; rw [hew]
    rw [this]
    exact over_idle h ho (by rw [← hec]; exact hi)
  have hwe : w < e.c.workers := by rw [hec]; exact hw
  have hnx : e.nextJob ≠ 0 := next_some hd hid hhas (by rw [hnew]; show (1 : Int) ≤ 2; decide)
  have hnn : e.nextJob = n := by
    refine Classical.byContradiction fun hne => ?_
    rcases next_mem hnx with hm | hm
    · have hm := (hd.urM _).1 hm
      have := hcase _ hm.1 hne
      omega
    · have hm := (hd.quM _).1 hm
      have := hcase _ hm.1 hne
      omega
  obtain ⟨_, hc⟩ := pick_cases hd hwe
  have h0 := hid w hwe
  cases hc with
  | rest _ hn' _ _ _ _ => exact absurd hn' hnx
  | step h1 hn0 _ _ _ => exact absurd (h1.symm.trans h0) hn0
  | good h1 hn0 _ _ _ _ _ _ _ _ _ => exact absurd (h1.symm.trans h0) hn0
  | fail h1 hn0 _ _ _ _ _ _ _ _ _ _ _ _ _ _ _ _ => exact absurd (h1.symm.trans h0) hn0
  | took _ _ _ he2 _ _ =>
    have hn0 : n ≠ 0 := by omega
    have he' : (e.pick w).1 = { e.setJob n { e.job n with state := 2, tries := (e.job n).tries + 1 } with queue := DeskM.left e.queue n, urgent := DeskM.left e.urgent n, workers := e.workers.set w ⟨n, e.goods.length, 0⟩ } := by
      rw [he2]; unfold DeskM.taken; simp only; rw [hnn, if_neg hn0]
    generalize (e.pick w).1 = f at *
    have hj : ∀ m, 1 ≤ m → f.job m = if m = n then { e.job n with state := 2, tries := (e.job n).tries + 1 } else e.job m := fun m hm => by
      rw [he']; exact job_set hhas hm _
    have hfh : ∀ m, f.Has m ↔ e.Has m := fun m => by rw [he']; unfold DeskM.Has; rw [show ({ e.setJob n { e.job n with state := 2, tries := (e.job n).tries + 1 } with queue := DeskM.left e.queue n, urgent := DeskM.left e.urgent n, workers := e.workers.set w ⟨n, e.goods.length, 0⟩ } : DeskM).jobs.length = e.jobs.length from set_len e n _]
    refine ⟨?_, by rw [he', ← heg]; rfl, (hfh n).2 hhas, by rw [hj n hhas.1, if_pos rfl, hnew], by rw [hj n hhas.1, if_pos rfl, hnew], by rw [hj n hhas.1, if_pos rfl, hnew], fun m hm hne => ?_⟩
    · rw [he']
      show (e.workers.set w ⟨n, e.goods.length, 0⟩).getD w att0 = _
      rw [wk_set (by rw [hd.wlen]; exact hwe), if_pos rfl, heg]
    · rw [hj m hm.1, if_neg hne]
      exact hcase m ((hfh m).1 hm) hne
/-- and goes on, or ends -/
theorem al_pick {d : DeskM} (h : DInv d) {w n k : Nat} {l : List St} {g0 : List GoodM} (hw : w < d.c.workers) (ha : Al d w n k l g0) : Al (d.pick w).1 w n (k + 1) l g0 ∨ Ae (d.pick w).1 n l g0 := by
  have hn0 : n ≠ 0 := by have := ha.has.1; omega
  have hwk := ha.wk
  have hwt : (d.wk w).ticket = n := by rw [hwk]
  have hwb : (d.wk w).beg = d.goods.length := by rw [hwk, ha.goods]
  have hwl : w < d.workers.length := by rw [h.wlen]; exact hw
  have hgt : d.goods.take (d.wk w).beg = g0 := by rw [hwb, List.take_length, ha.goods]
  obtain ⟨_, hc⟩ := pick_cases h hw
  generalize (d.pick w).1 = e at *
  cases hc with
  | rest h0 _ _ _ _ _ => exact absurd (hwt.symm.trans h0) hn0
  | took h0 _ _ _ _ _ => exact absurd (hwt.symm.trans h0) hn0
  | fail _ _ q hq _ _ _ _ _ _ _ _ _ _ _ _ _ _ => rw [hwb] at hq; omega
  | step h1 _ he _ _ =>
    refine Or.inl ⟨?_, by rw [he]; exact ha.goods, by rw [he]; exact ha.has, by rw [he]; exact ha.steps, by rw [he]; exact ha.tries, by rw [he]; exact ha.failed, fun m hm hne => by rw [he] at hm ⊢; exact ha.rest m hm hne⟩
    rw [he]
    show (d.workers.set w _).getD w att0 = _
    rw [wk_set hwl, if_pos rfl, hwk]
  | good h1 _ st x t hx hst ht he _ _ =>
    have h1' := h1.symm.trans hwt
    rw [h1'] at hx hst ht he
    rw [ha.steps, hgt] at hx
    rw [ha.steps] at hst
    have hfin : x.fin = 0 ∨ x.fin = 4 ∨ x.fin = 5 := by rw [hx]; exact play_fin _ _ _ _ (Or.inl rfl)
    have hbd : 3 ≤ st ∧ st ≤ 5 := by rw [hst]; exact end_bd hfin
    have hj : ∀ m, 1 ≤ m → e.job m = if m = n then { d.job n with state := st, told := x.told } else d.job m := fun m hm => by
      rw [he]; exact job_set ha.has hm _
    have hfh : ∀ m, e.Has m ↔ d.Has m := fun m => by rw [he]; unfold DeskM.Has; rw [show ({ d.setJob n { d.job n with state := st, told := x.told } with workers := d.workers.set w att0, goods := d.goods ++ [t] } : DeskM).jobs.length = d.jobs.length from set_len d n _]
    have hec : e.c = d.c := by rw [he]; rfl
    have hn1 := ha.has.1
    refine Or.inr ⟨(hfh n).2 ha.has, fun m hm => ?_, ?_, ?_, ?_, ?_, ?_⟩
    · rw [hj m hm.1]
      by_cases e1 : m = n
      · rw [if_pos e1]; show 2 < st; omega
      · rw [if_neg e1]; exact ha.rest m ((hfh m).1 hm) e1
    · rw [hj n hn1, if_pos rfl, hec, ← hx]; exact hst
    · rw [hj n hn1, if_pos rfl, hec, ← hx]
    · rw [hj n hn1, if_pos rfl]; exact ha.tries
    · rw [hj n hn1, if_pos rfl]; exact ha.failed
    · rw [hec, ← hx]
      have : e.goods = g0 ++ [t] := by rw [he, ← ha.goods]
      rw [this, mapF_snoc, ht]
      unfold mapAfter
      rw [hst]
      show see (mapF g0) (if _ then _ else _) = _
      split
      · rfl
      · funext k; simp [see]
theorem ae_pick {d : DeskM} (h : DInv d) {w n : Nat} {l : List St} {g0 : List GoodM} (hw : w < d.c.workers) (ha : Ae d n l g0) : Ae (d.pick w).1 n l g0 := by rw [over_pick h ha.over hw]; exact ha
end Go.Proofs.Ytlbmcdoldnajoaa
