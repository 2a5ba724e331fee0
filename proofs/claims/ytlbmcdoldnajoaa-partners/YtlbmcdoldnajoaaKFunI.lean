import Derived.Test.YtlbmcdoldnajoaaKPm
import Derived.Test.YtlbmcdoldnajoaaKFunH

namespace Go.Proofs.Ytlbmcdoldnajoaa
/-- the job n, whose steps are l, runs alone at the worker w, k steps done, over the attempts g0 -/
structure Al (d : DeskM) (w n k : Nat) (l : List St) (g0 : List GoodM) : Prop where
  wk : d.wk w = ⟨n, g0.length, k⟩
  goods : d.goods = g0
  has : d.Has n
  steps : (d.job n).steps = l
  tries : (d.job n).tries = 1
  failed : (d.job n).failed = 0
  rest : ∀ m, d.Has m → m ≠ n → 2 < (d.job m).state
/-- it has run so -/
structure Ae (d : DeskM) (n : Nat) (l : List St) (g0 : List GoodM) : Prop where
  has : d.Has n
  over : ∀ m, d.Has m → 2 < (d.job m).state
  state : (d.job n).state = endState l (play l (mapF g0) d.c.fuel mo0)
  told : (d.job n).told = (play l (mapF g0) d.c.fuel mo0).told
  tries : (d.job n).tries = 1
  failed : (d.job n).failed = 0
  map : mapF d.goods = mapAfter l (mapF g0) (play l (mapF g0) d.c.fuel mo0)
theorem over_idle {d : DeskM} (h : DInv d) (ho : ∀ m, d.Has m → 2 < (d.job m).state) {i : Nat} (hi : i < d.c.workers) : (d.wk i).ticket = 0 := by
  refine Classical.byContradiction fun h0 => ?_
  have hw := h.work i hi h0
  have := ho _ hw.1
  rw [hw.2.1] at this
  omega
theorem over_next {d : DeskM} (h : DInv d) (ho : ∀ m, d.Has m → 2 < (d.job m).state) : d.nextJob = 0 := by
  refine Classical.byContradiction fun h0 => ?_
  rcases next_mem h0 with hm | hm
  · have := (h.urM _).1 hm
    have := ho _ this.1
    omega
  · have := (h.quM _).1 hm
    have := ho _ this.1
    omega
theorem over_pick {d : DeskM} (h : DInv d) (ho : ∀ m, d.Has m → 2 < (d.job m).state) {i : Nat} (hi : i < d.c.workers) : (d.pick i).1 = d := by
  obtain ⟨_, hc⟩ := pick_cases h hi
  have h0 := over_idle h ho hi
  have hn := over_next h ho
  cases hc with
  | rest _ _ he _ _ _ => exact he
  | took _ hn' hn0 _ _ _ => exact absurd (hn'.trans hn) hn0
  | step h1 hn0 _ _ _ => exact absurd (h1.symm.trans h0) hn0
  | good h1 hn0 _ _ _ _ _ _ _ _ _ => exact absurd (h1.symm.trans h0) hn0
  | fail h1 hn0 _ _ _ _ _ _ _ _ _ _ _ _ _ _ _ _ => exact absurd (h1.symm.trans h0) hn0
theorem over_wait {d : DeskM} (h : DInv d) (ho : ∀ m, d.Has m → 2 < (d.job m).state) : d.waiting = 0 := by
  rw [waitingD_eq h]
  have h1 : d.queue = [] := List.eq_nil_iff_forall_not_mem.2 fun n hn => by
    have := (h.quM n).1 hn
    have := ho _ this.1
    omega
  have h2 : d.urgent = [] := List.eq_nil_iff_forall_not_mem.2 fun n hn => by
    have := (h.urM n).1 hn
    have := ho _ this.1
    omega
  rw [h1, h2]; rfl
/-- a job is handed in where all are over -/
theorem al_say {d : DeskM} (h : DInv d) (ho : ∀ m, d.Has m → 2 < (d.job m).state) {l : List St} (hl : jobB l = true) :
    d.submit l = ({ d with jobs := d.jobs ++ [⟨l, 1, [], 0, 0, false⟩], queue := d.queue ++ [d.jobs.length + 1] }, d.jobs.length + 1, 0) := by
  unfold DeskM.submit
  have := over_wait h ho
  have := h.conf
  rw [if_neg (by rw [hl]; simp), if_neg (by omega)]
/-- it is taken -/
theorem al_took {d : DeskM} (h : DInv d) (ho : ∀ m, d.Has m → 2 < (d.job m).state) {l : List St} (hl : jobB l = true) {w : Nat} (hw : w < d.c.workers) :
    Al ((d.submit l).1.pick w).1 w (d.jobs.length + 1) 0 l d.goods := by
  have hd := h.submit l
  have he := congrArg Prod.fst (al_say h ho hl)
  simp only at he
  generalize (d.submit l).1 = e at *
  obtain ⟨n, hn⟩ : ∃ n, n = d.jobs.length + 1 := ⟨_, rfl⟩
  rw [← hn] at he ⊢
  have hjl : e.jobs.length = n := by rw [he, hn]; simp
  have hnew : e.job n = ⟨l, 1, [], 0, 0, false⟩ := by rw [he, hn]; simp [DeskM.job, List.getD]
  have hold : ∀ m, d.Has m → e.job m = d.job m := fun m hm => by
    have h1 := hm.1
    have h2 := hm.2
    rw [he]
    simp only [DeskM.job, List.getD]
    rw [List.getElem?_append_left (by omega)]
  have hcase : ∀ m, e.Has m → m ≠ n → 2 < (e.job m).state := fun m hm hne => by
    have h1 := hm.1
    have h2 := hm.2
    have hdm : d.Has m := ⟨h1, by omega⟩
    rw [hold m hdm]
    exact ho m hdm
  have hec : e.c = d.c := by rw [he]
  have heg : e.goods = d.goods := by rw [he]
  have hew : e.workers = d.workers := by rw [he]
  have hhas : e.Has n := ⟨by omega, by omega⟩
  have hid : ∀ i, i < e.c.workers → (e.wk i).ticket = 0 := fun i hi => by
    have : e.wk i = d.wk i := by unfold DeskM.wk; rw [hew]
    rw [this]
    exact over_idle h ho (by rw [← hec]; exact hi)
  have hwe : w < e.c.workers := by rw [hec]; exact hw
  have hnx : e.nextJob ≠ 0 := next_some hd hid hhas (by rw [hnew]; show (1 : Int) ≤ 2; decide)
  have hnn : e.nextJob = n := by
    refine Classical.byContradiction fun hne => ?_
    rcases next_mem hnx with hm | hm
    · have hm := (hd.urM _).1 hm
      have := hcase _ hm.1 hne
      omega
    · have hm := (hd.quM _).1 hm
      have := hcase _ hm.1 hne
      omega
  obtain ⟨_, hc⟩ := pick_cases hd hwe
  have h0 := hid w hwe
  cases hc with
  | rest _ hn' _ _ _ _ => exact absurd hn' hnx
  | step h1 hn0 _ _ _ => exact absurd (h1.symm.trans h0) hn0
  | good h1 hn0 _ _ _ _ _ _ _ _ _ => exact absurd (h1.symm.trans h0) hn0
  | fail h1 hn0 _ _ _ _ _ _ _ _ _ _ _ _ _ _ _ _ => exact absurd (h1.symm.trans h0) hn0
  | took _ _ _ he2 _ _ =>
    have hn0 : n ≠ 0 := by omega
    have he' : (e.pick w).1 = { e.setJob n { e.job n with state := 2, tries := (e.job n).tries + 1 } with queue := DeskM.left e.queue n, urgent := DeskM.left e.urgent n, workers := e.workers.set w ⟨n, e.goods.length, 0⟩ } := by
      rw [he2]; unfold DeskM.taken; simp only; rw [hnn, if_neg hn0]
    generalize (e.pick w).1 = f at *
    have hj : ∀ m, 1 ≤ m → f.job m = if m = n then { e.job n with state := 2, tries := (e.job n).tries + 1 } else e.job m := fun m hm => by
      rw [he']; exact job_set hhas hm _
    have hfh : ∀ m, f.Has m ↔ e.Has m := fun m => by rw [he']; unfold DeskM.Has; rw [show ({ e.setJob n { e.job n with state := 2, tries := (e.job n).tries + 1 } with queue := DeskM.left e.queue n, urgent := DeskM.left e.urgent n, workers := e.workers.set w ⟨n, e.goods.length, 0⟩ } : DeskM).jobs.length = e.jobs.length from set_len e n _]
    refine ⟨?_, by rw [he', ← heg]; rfl, (hfh n).2 hhas, by rw [hj n hhas.1, if_pos rfl, hnew], by rw [hj n hhas.1, if_pos rfl, hnew], by rw [hj n hhas.1, if_pos rfl, hnew], fun m hm hne => ?_⟩
    · rw [he']
      show (e.workers.set w ⟨n, e.goods.length, 0⟩).getD w att0 = _
      rw [wk_set (by rw [hd.wlen]; exact hwe), if_pos rfl, heg]
    · rw [hj m hm.1, if_neg hne]
      exact hcase m ((hfh m).1 hm) hne
/-- and goes on, or ends -/
theorem al_pick {d : DeskM} (h : DInv d) {w n k : Nat} {l : List St} {g0 : List GoodM} (hw : w < d.c.workers) (ha : Al d w n k l g0) : Al (d.pick w).1 w n (k + 1) l g0 ∨ Ae (d.pick w).1 n l g0 := by
  have hn0 : n ≠ 0 := by have := ha.has.1; omega
  have hwk := ha.wk
  have hwt : (d.wk w).ticket = n := by rw [hwk]
  have hwb : (d.wk w).beg = d.goods.length := by rw [hwk, ha.goods]
  have hwl : w < d.workers.length := by rw [h.wlen]; exact hw
  have hgt : d.goods.take (d.wk w).beg = g0 := by rw [hwb, List.take_length, ha.goods]
  obtain ⟨_, hc⟩ := pick_cases h hw
  generalize (d.pick w).1 = e at *
  cases hc with
  | rest h0 _ _ _ _ _ => exact absurd (hwt.symm.trans h0) hn0
  | took h0 _ _ _ _ _ => exact absurd (hwt.symm.trans h0) hn0
  | fail _ _ q hq _ _ _ _ _ _ _ _ _ _ _ _ _ _ => rw [hwb] at hq; omega
  | step h1 _ he _ _ =>
    refine Or.inl ⟨?_, by rw [he]; exact ha.goods, by rw [he]; exact ha.has, by rw [he]; exact ha.steps, by rw [he]; exact ha.tries, by rw [he]; exact ha.failed, fun m hm hne => by rw [he] at hm ⊢; exact ha.rest m hm hne⟩
    rw [he]
    show (d.workers.set w _).getD w att0 = _
    rw [wk_set hwl, if_pos rfl, hwk]
  | good h1 _ st x t hx hst ht he _ _ =>
    have h1' := h1.symm.trans hwt
    rw [h1'] at hx hst ht he
    rw [ha.steps, hgt] at hx
    rw [ha.steps] at hst
    have hfin : x.fin = 0 ∨ x.fin = 4 ∨ x.fin = 5 := by rw [hx]; exact play_fin _ _ _ _ (Or.inl rfl)
    have hbd : 3 ≤ st ∧ st ≤ 5 := by rw [hst]; exact end_bd hfin
    have hj : ∀ m, 1 ≤ m → e.job m = if m = n then { d.job n with state := st, told := x.told } else d.job m := fun m hm => by
      rw [he]; exact job_set ha.has hm _
    have hfh : ∀ m, e.Has m ↔ d.Has m := fun m => by rw [he]; unfold DeskM.Has; rw [show ({ d.setJob n { d.job n with state := st, told := x.told } with workers := d.workers.set w att0, goods := d.goods ++ [t] } : DeskM).jobs.length = d.jobs.length from set_len d n _]
    have hec : e.c = d.c := by rw [he]; rfl
    have hn1 := ha.has.1
    refine Or.inr ⟨(hfh n).2 ha.has, fun m hm => ?_, ?_, ?_, ?_, ?_, ?_⟩
    · rw [hj m hm.1]
      by_cases e1 : m = n
      · rw [if_pos e1]; show 2 < st; omega
      · rw [if_neg e1]; exact ha.rest m ((hfh m).1 hm) e1
    · rw [hj n hn1, if_pos rfl, hec, ← hx]; exact hst
    · rw [hj n hn1, if_pos rfl, hec, ← hx]
    · rw [hj n hn1, if_pos rfl]; exact ha.tries
    · rw [hj n hn1, if_pos rfl]; exact ha.failed
    · rw [hec, ← hx]
      have : e.goods = g0 ++ [t] := by rw [he, ← ha.goods]
      rw [this, mapF_snoc, ht]
      unfold mapAfter
      rw [hst]
      show see (mapF g0) (if _ then _ else _) = _
      split
      · rfl
      · funext k; simp [see]
theorem ae_pick {d : DeskM} (h : DInv d) {w n : Nat} {l : List St} {g0 : List GoodM} (hw : w < d.c.workers) (ha : Ae d n l g0) : Ae (d.pick w).1 n l g0 := by rw [over_pick h ha.over hw]; exact ha
end Go.Proofs.Ytlbmcdoldnajoaa

namespace Go.Proofs.Ytlbmcdoldnajoaa
/-- a run that has seen nothing yet -/
def run0 (c : ConfM) (xb : Nat) : RM := ⟨desk0 c, c, [], [], List.replicate c.workers 0, 0, xb⟩
def fJ : List St := [⟨1, 0, 7, 0⟩, ⟨3, 3, 0, 0⟩, ⟨11, 0, 0, 0⟩]
/-- its first job handed in, and k picks -/
def run5 (c : ConfM) (xb : Nat) : Nat → RM
  | 0 => (run0 c xb).sayR fJ
  | k + 1 => (run5 c xb k).pickR 0
theorem run0_inv {c : ConfM} (xb : Nat) (hc : (1 ≤ c.workers ∧ c.workers ≤ 4) ∧ (1 ≤ c.queue ∧ c.queue ≤ 8) ∧ (1 ≤ c.fuel ∧ c.fuel ≤ 200) ∧ c.patience ≤ 5) (hf : 3 ≤ c.fuel) : KInv (run0 c xb) := by
  have hno : ∀ n, ¬ (run0 c xb).d.Has n := fun n hn => by
    have h1 := hn.1
    have h2 : n ≤ 0 := hn.2
    omega
  refine ⟨dinv0 hc, uinv0 c, rfl, hf, rfl, fun n hn => absurd hn (hno n), fun n hn => absurd hn (hno n), fun n hn => absurd hn (hno n), fun n hn => absurd hn (hno n), fun n hn => absurd hn (hno n), fun n hn => absurd hn (hno n), ?_, rfl, rfl⟩
  show List.replicate c.workers 0 = (List.replicate c.workers att0).map (·.ticket)
  rw [List.map_replicate]; rfl
theorem run5_ok {c : ConfM} (xb : Nat) (hc : (1 ≤ c.workers ∧ c.workers ≤ 4) ∧ (1 ≤ c.queue ∧ c.queue ≤ 8) ∧ (1 ≤ c.fuel ∧ c.fuel ≤ 200) ∧ c.patience ≤ 5) (hf : 3 ≤ c.fuel) : ∀ k, KOk 1 (run5 c xb k) ∧ (run5 c xb k).d.c = c
  | 0 => by
    have h0 : KOk 0 (run0 c xb) := ⟨run0_inv xb hc hf, Nat.le_refl _, fun n => by simp [RM.tk, run0, tk0]⟩
    refine ⟨h0.say (by decide), ?_⟩
    show ((run0 c xb).sayR fJ).d.c = c
    unfold RM.sayR DeskM.submit
    split
    · rfl
    · split <;> rfl
  | k + 1 => by
    obtain ⟨h1, h2⟩ := run5_ok xb hc hf k
    exact ⟨h1.pick (by rw [h2]; omega), by show ((run5 c xb k).pickR 0).d.c = c; rw [pickR_d, pick_c, h2]⟩

theorem f_ends {c : ConfM} (hc : (1 ≤ c.workers ∧ c.workers ≤ 4) ∧ (1 ≤ c.queue ∧ c.queue ≤ 8) ∧ (1 ≤ c.fuel ∧ c.fuel ≤ 200) ∧ c.patience ≤ 5) (hf : 3 ≤ c.fuel) {m : Int → Int} : play fJ m c.fuel mo0 = play fJ m 3 mo0 := by
  have : 3 + (c.fuel - 3) = c.fuel := by omega
  rw [← this, play_add]
  refine play_end (fun h => ?_)
  have e : (play fJ m 3 mo0).pc = 3 := rfl
  have h2 := h.2
  rw [e] at h2
  exact absurd h2 (by decide)

theorem run5_al {c : ConfM} (xb : Nat) (hc : (1 ≤ c.workers ∧ c.workers ≤ 4) ∧ (1 ≤ c.queue ∧ c.queue ≤ 8) ∧ (1 ≤ c.fuel ∧ c.fuel ≤ 200) ∧ c.patience ≤ 5) (hf : 3 ≤ c.fuel) : ∀ k, (∃ q, q = k ∧ Al (run5 c xb (k + 1)).d 0 1 q fJ []) ∨ Ae (run5 c xb (k + 1)).d 1 fJ []
  | 0 => by
    have hdes : ((run0 c xb).sayR fJ).d = ((run0 c xb).d.submit fJ).1 := by
      unfold RM.sayR
      split
      · rename_i hq
        exfalso
        have : (run0 c xb).d.waiting = 0 := rfl
        have h2 : (run0 c xb).d.c.queue = c.queue := rfl
        omega
      · rfl
    have h1 := al_took (d := (run0 c xb).d) (run0_inv xb hc hf).inv (fun m hm => by have h1 := hm.1; have h2 : m ≤ 0 := hm.2; omega) (l := fJ) (by decide) (w := 0) (by show 0 < c.workers; omega)
    refine Or.inl ⟨0, rfl, ?_⟩
    show Al (((run0 c xb).sayR fJ).pickR 0).d 0 1 0 fJ []
    rw [pickR_d, hdes]
    exact h1
  | k + 1 => by
    have hk := run5_ok xb hc hf (k + 1)
    have hw : 0 < (run5 c xb (k + 1)).d.c.workers := by rw [hk.2]; omega
    have e : (run5 c xb (k + 1 + 1)).d = ((run5 c xb (k + 1)).d.pick (0 : Nat)).1 := pickR_d _ _
    rw [e]
    rcases run5_al xb hc hf k with ⟨q, rfl, h⟩ | h
    · rcases al_pick hk.1.k.inv hw h with h | h
      · exact Or.inl ⟨q + 1, rfl, h⟩
      · exact Or.inr h
    · exact Or.inr (ae_pick hk.1.k.inv hw h)

theorem run5_end {c : ConfM} (xb : Nat) (hc : (1 ≤ c.workers ∧ c.workers ≤ 4) ∧ (1 ≤ c.queue ∧ c.queue ≤ 8) ∧ (1 ≤ c.fuel ∧ c.fuel ≤ 200) ∧ c.patience ≤ 5) (hf : 3 ≤ c.fuel) : Ae (run5 c xb 5).d 1 fJ [] := by
  rcases run5_al xb hc hf 4 with ⟨q, rfl, h⟩ | h
  · exfalso
    have hk := run5_ok xb hc hf 5
    have hw : 0 < (run5 c xb 5).d.c.workers := by rw [hk.2]; omega
    have ht : ((run5 c xb 5).d.wk 0).ticket = 1 := by rw [h.wk]
    have hh := (hk.1.k.inv.work 0 hw (by rw [ht]; decide)).2.2.2.2.2
    have e : (run5 c xb 5).d.aX ((run5 c xb 5).d.wk 0) = play fJ (mapF ((run5 c xb 5).d.goods.take ((run5 c xb 5).d.wk 0).beg)) 4 mo0 := by
      unfold DeskM.aX
      rw [ht, h.steps]
      have : ((run5 c xb 5).d.wk 0).done = 4 := by rw [h.wk]
      rw [this]
    rw [e] at hh
    have h3 : (play fJ (mapF ((run5 c xb 5).d.goods.take ((run5 c xb 5).d.wk 0).beg)) 4 mo0).done = 3 := rfl
    have h4 : ((run5 c xb 5).d.wk 0).done = 4 := by rw [h.wk]
    omega
  · exact h

theorem run5_len {c : ConfM} (xb : Nat) (hc : (1 ≤ c.workers ∧ c.workers ≤ 4) ∧ (1 ≤ c.queue ∧ c.queue ≤ 8) ∧ (1 ≤ c.fuel ∧ c.fuel ≤ 200) ∧ c.patience ≤ 5) (hf : 3 ≤ c.fuel) : ∀ k, (run5 c xb k).d.jobs.length = 1
  | 0 => by
    show ((run0 c xb).sayR fJ).d.jobs.length = 1
    unfold RM.sayR
    rw [if_neg (by have : (run0 c xb).d.waiting = 0 := rfl; have h2 : (run0 c xb).d.c.queue = c.queue := rfl; omega)]
    have := congrArg Prod.fst (al_say (d := (run0 c xb).d) (run0_inv xb hc hf).inv (fun m hm => by have h1 := hm.1; have h2 : m ≤ 0 := hm.2; omega) (l := fJ) (by decide))
    show ((run0 c xb).d.submit fJ).1.jobs.length = 1
    rw [this]; rfl
  | k + 1 => by
    have hk := run5_ok xb hc hf k
    have h1 := (hk.1.pick (i := 0) (by rw [hk.2]; omega)).k.len
    show ((run5 c xb k).pickR 0).d.jobs.length = 1
    rw [← h1]
    have h2 := run5_len xb hc hf k
    rw [← hk.1.k.len] at h2
    unfold RM.pickR RM.pickN
    split
    · exact h2
    · split
      · exact h2
      · split
        · simp only [List.length_set]; exact h2
        · exact h2

/-- what came out: state, told, tries, the map -/
theorem run5_out {c : ConfM} (xb : Nat) (hc : (1 ≤ c.workers ∧ c.workers ≤ 4) ∧ (1 ≤ c.queue ∧ c.queue ≤ 8) ∧ (1 ≤ c.fuel ∧ c.fuel ≤ 200) ∧ c.patience ≤ 5) (hf : 3 ≤ c.fuel) : ((run5 c xb 5).d.job 1).state = 3 ∧ ((run5 c xb 5).d.job 1).told = [7] ∧ ((run5 c xb 5).d.job 1).tries = 1 ∧ ((run5 c xb 5).d.job 1).failed = 0 ∧ listOf (mapF (run5 c xb 5).d.goods) = [(3, 7)] ∧ openN (run5 c xb 5).d = 0 := by
  have h := run5_end xb hc hf
  have hcc := (run5_ok xb hc hf 5).2
  have h1 := h.state
  have h2 := h.told
  have h5 := h.map
  rw [hcc, f_ends hc hf] at h1 h2 h5
  refine ⟨h1.trans rfl, h2.trans rfl, h.tries, h.failed, ?_, ?_⟩
  · rw [h5]; rfl
  · refine Nat.eq_zero_of_not_pos fun hp => ?_
    obtain ⟨n, hn, hs⟩ := open_pos hp
    have := h.over n hn
    omega
end Go.Proofs.Ytlbmcdoldnajoaa

namespace Go.Proofs.Ytlbmcdoldnajoaa
open Go.RowKit
/-- a configuration out of any numbers -/
def fitM (a b c d : Int) : ConfM := ⟨(1 + pickI a 4).toNat, (1 + pickI b 8).toNat, (3 + pickI c 198).toNat, (pickI d 6).toNat⟩
theorem fit_ok (a b c d : Int) : ((1 ≤ (fitM a b c d).workers ∧ (fitM a b c d).workers ≤ 4) ∧ (1 ≤ (fitM a b c d).queue ∧ (fitM a b c d).queue ≤ 8) ∧ (1 ≤ (fitM a b c d).fuel ∧ (fitM a b c d).fuel ≤ 200) ∧ (fitM a b c d).patience ≤ 5) ∧ 3 ≤ (fitM a b c d).fuel := by
  have a1 := pickI_lo a (n := 4) (by omega)
  have a2 := pickI_hi a (n := 4) (by omega)
  have b1 := pickI_lo b (n := 8) (by omega)
  have b2 := pickI_hi b (n := 8) (by omega)
  have c1 := pickI_lo c (n := 198) (by omega)
  have c2 := pickI_hi c (n := 198) (by omega)
  have d1 := pickI_lo d (n := 6) (by omega)
  have d2 := pickI_hi d (n := 6) (by omega)
  unfold fitM
  simp only
  omega
set_option maxRecDepth 100000 in
set_option maxHeartbeats 1000000 in
theorem fit_k (a b c d : Int) (w : World) (ha : i64B a) (hb : i64B b) (hc : i64B c) (hd : i64B d) :
    Calls Try.prog 66 #[confV a b c d] w fun e w' => e = .returned (confV ((fitM a b c d).workers : Int) ((fitM a b c d).queue : Int) ((fitM a b c d).fuel : Int) ((fitM a b c d).patience : Int)) ∧ Below w.heap.size w w' := by
  have a1 := pickI_lo a (n := 4) (by omega)
  have a2 := pickI_hi a (n := 4) (by omega)
  have b1 := pickI_lo b (n := 8) (by omega)
  have b2 := pickI_hi b (n := 8) (by omega)
  have c1 := pickI_lo c (n := 198) (by omega)
  have c2 := pickI_hi c (n := 198) (by omega)
  have d1 := pickI_lo d (n := 6) (by omega)
  have d2 := pickI_hi d (n := 6) (by omega)
  have hwa : IntKind.i64.wrap (1 + pickI a 4) = ((fitM a b c d).workers : Int) := by rw [IntKind.wrap_i64]; unfold fitM; simp only; omega
  have hwb : IntKind.i64.wrap (1 + pickI b 8) = ((fitM a b c d).queue : Int) := by rw [IntKind.wrap_i64]; unfold fitM; simp only; omega
  have hwc : IntKind.i64.wrap (3 + pickI c 198) = ((fitM a b c d).fuel : Int) := by rw [IntKind.wrap_i64]; unfold fitM; simp only; omega
  have hwd : pickI d 6 = ((fitM a b c d).patience : Int) := by unfold fitM; simp only; omega
  generalize (fitM a b c d).workers = fa at *
  generalize (fitM a b c d).queue = fb at *
  generalize (fitM a b c d).fuel = fc at *
  generalize (fitM a b c d).patience = fd at *
  have HPA : Hid (∀ W : World, Calls Try.prog 19 #[.int .i64 a, .int .i64 4] W fun e w' => e = .returned (.int .i64 (pickI a 4)) ∧ w' = W) := fun W => pick_any a 4 W ha (by decide) (by decide)
  have HPB : Hid (∀ W : World, Calls Try.prog 19 #[.int .i64 b, .int .i64 8] W fun e w' => e = .returned (.int .i64 (pickI b 8)) ∧ w' = W) := fun W => pick_any b 8 W hb (by decide) (by decide)
  have HPC : Hid (∀ W : World, Calls Try.prog 19 #[.int .i64 c, .int .i64 198] W fun e w' => e = .returned (.int .i64 (pickI c 198)) ∧ w' = W) := fun W => pick_any c 198 W hc (by decide) (by decide)
  have HPD : Hid (∀ W : World, Calls Try.prog 19 #[.int .i64 d, .int .i64 6] W fun e w' => e = .returned (.int .i64 (fd : Int)) ∧ w' = W) := fun W => by have := pick_any d 6 W hd (by decide) (by decide); rwa [hwd] at this
  generalize pickI a 4 = ya at *
  generalize pickI b 8 = yb at *
  generalize pickI c 198 = yc at *
  clear a1 a2 b1 b2 c1 c2 d1 d2 hwd ha hb hc hd
  unfold confV
  go_enter Try.func66, Try.ntmps66
  go_wp2
  refine wp_tail 16 (by kernel_rfl) ?_
  simp only [List.take_succ_cons, List.take_zero, List.drop_succ_cons, List.drop_zero]
  still_step
  still_step
  still_call (HPA.out _)
  still_step
  still_step
  still_step
  still_call (HPB.out _)
  still_step
  still_step
  still_step
  still_call (HPC.out _)
  still_step
  still_step
  still_step
  still_call (HPD.out _)
  still_step
  refine wpStill_nil ?_
  go_wp2
  refine bodyPost_ret (v := .agg #[.int .i64 (fa : Int), .int .i64 (fb : Int), .int .i64 (fc : Int), .int .i64 (fd : Int)]) (by simp [results, Try.results66, go_sem]) rfl ?_
  exact ⟨rfl, (((Below.refl _ _).alloc (Nat.le_refl _) _).alloc (by simp) _).drew⟩
set_option maxRecDepth 100000 in
set_option maxHeartbeats 1000000 in
theorem first_own (w : World) :
    Calls Try.prog 64 #[] w fun e w' => ∃ b, e = .returned (.slice (some ⟨b, 0, none⟩) 3 3) ∧ w'.ownsRow w.heap.size 40 4 (.slice (some ⟨b, 0, none⟩) 3 3) fJ.length (stCells fJ) ∧ Below w.heap.size w w' := by
  go_enter Try.func64, Try.ntmps64
  go_wp2
  go_ret
  exact ⟨w.heap.size, rfl, ⟨rfl, Or.inr ⟨w.heap.size, 3, _, rfl, Nat.le_refl _, heap_alloc_new _ _, Nat.le_refl _, (by unfold maxLen; omega), rfl, rfl⟩⟩, (Below.refl _ _).alloc (Nat.le_refl _) _⟩
end Go.Proofs.Ytlbmcdoldnajoaa
