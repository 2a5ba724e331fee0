import Derived.Test.YtlbmcdoldnajoabProgX
import Derived.Test.YtlbmcdoldnajoabDeskR

namespace Go.Proofs.Ytlbmcdoldnajoab
/-- a job that was handed in, by the law's own account -/
structure TK where
  steps : List St
  kills : Nat
  fails : Nat
  gone : Bool
  foes : List Nat
def tk0 : TK := ⟨[], 0, 0, false, []⟩
/-- a desk that is played, and what was seen of it -/
structure RM where
  d : DeskM
  c : ConfM
  tasks : List TK
  order : List Nat
  at_ : List Nat
  again : Nat
  xb : Nat
def RM.tk (R : RM) (n : Nat) : TK := R.tasks.getD (n - 1) tk0
/-- what a pick does -/
inductive PickC (d : DeskM) (i : Nat) (e : DeskM) (k : Int) (n p : Nat) : Prop
  | rest (h0 : (d.wk i).ticket = 0) (hn : d.nextJob = 0) (he : e = d) (hk : k = 0) (hn0 : n = 0) (hp : p = 0)
  | took (h0 : (d.wk i).ticket = 0) (hn : n = d.nextJob) (hn0 : n ≠ 0) (he : e = (d.taken i).1) (hk : k = 1) (hp : p = 0)
  | step (h0 : (d.wk i).ticket = n) (hn0 : n ≠ 0) (he : e = { d with workers := d.workers.set i { d.wk i with done := (d.wk i).done + 1 } }) (hk : k = 2) (hp : p = 0)
  | good (h0 : (d.wk i).ticket = n) (hn0 : n ≠ 0) (st : Int) (x : Mo) (t : GoodM) (hx : x = play (d.job n).steps (mapF (d.goods.take (d.wk i).beg)) d.c.fuel mo0) (hst : st = endState (d.job n).steps x) (ht : t = ⟨n, (d.wk i).beg, x.read, if st = 3 then x.puts else fun _ => none⟩)
      (he : e = { d.setJob n { d.job n with state := st, told := x.told } with workers := d.workers.set i att0, goods := d.goods ++ [t] }) (hk : k = 3) (hp : p = 0)
  | fail (h0 : (d.wk i).ticket = n) (hn0 : n ≠ 0) (q : Nat) (hq : (d.wk i).beg ≤ q ∧ q < d.goods.length) (hp : p = (gAt d.goods q).ticket) (hp3 : d.Has p ∧ (d.job p).state = 3)
      (j : JobM) (hj : j.state = 1 ∧ j.failed = (d.job n).failed + 1 ∧ j.steps = (d.job n).steps ∧ j.tries = (d.job n).tries) (hej : e.jobs = (d.setJob n j).jobs) (heg : e.goods = d.goods) (hew : e.workers = d.workers.set i att0) (hec : e.c = d.c) (hk : k = 4)
      (x : Mo) (t : GoodM) (hx : x = play (d.job n).steps (mapF (d.goods.take (d.wk i).beg)) d.c.fuel mo0) (ht : t = ⟨n, (d.wk i).beg, x.read, if endState (d.job n).steps x = 3 then x.puts else fun _ => none⟩) (htp : d.partner t ≠ 0)
theorem looked_cases {d : DeskM} (h : DInv d) {i : Nat} (hi0 : (d.wk i).ticket ≠ 0) {x : Mo} (hx : x = play (d.job (d.wk i).ticket).steps (mapF (d.goods.take (d.wk i).beg)) d.c.fuel mo0) {state : Int} (hst : state = endState (d.job (d.wk i).ticket).steps x) :
    PickC d i (d.looked i x state).1 (d.looked i x state).2.1 (d.looked i x state).2.2.1 (d.looked i x state).2.2.2 := by
  obtain ⟨t, ht⟩ : ∃ t : GoodM, t = ⟨(d.wk i).ticket, (d.wk i).beg, x.read, if state = 3 then x.puts else fun _ => none⟩ := ⟨_, rfl⟩
  have hp : DeskM.partner { d with workers := d.workers.set i att0 } t = d.partner t := rfl
  have hl : d.looked i x state = if d.partner t ≠ 0 then DeskM.failedJ { d with workers := d.workers.set i att0 } (d.wk i).ticket (d.good (d.partner t)).ticket
      else ({ d.setJob (d.wk i).ticket { d.job (d.wk i).ticket with state := state, told := x.told } with workers := d.workers.set i att0, goods := d.goods ++ [t] }, 3, (d.wk i).ticket, 0) := by
    rw [ht]; rfl
  rw [hl]
  by_cases hz : d.partner t = 0
  · rw [if_neg (by simpa using hz)]
    exact .good rfl hi0 state x t hx hst ht rfl rfl rfl
  · rw [if_pos hz]
    have hf := partner_facts hz
    have hd := partner_done h hz
    have hb : t.beg = (d.wk i).beg := by rw [ht]
    have hg : gAt d.goods (d.partner t - 1) = d.good (d.partner t) := rfl
    have ht' : t = ⟨(d.wk i).ticket, (d.wk i).beg, x.read, if endState (d.job (d.wk i).ticket).steps x = 3 then x.puts else fun _ => none⟩ := by rw [ht, hst]
    unfold DeskM.failedJ
    simp only
    split
    · exact .fail rfl hi0 (d.partner t - 1) ⟨by omega, by omega⟩ (by rw [hg]) hd { d.job (d.wk i).ticket with state := 1, failed := (d.job (d.wk i).ticket).failed + 1, urgent := true } ⟨rfl, rfl, rfl, rfl⟩ rfl rfl rfl rfl rfl x t hx ht' hz
    · exact .fail rfl hi0 (d.partner t - 1) ⟨by omega, by omega⟩ (by rw [hg]) hd { d.job (d.wk i).ticket with state := 1, failed := (d.job (d.wk i).ticket).failed + 1 } ⟨rfl, rfl, rfl, rfl⟩ rfl rfl rfl rfl rfl x t hx ht' hz
theorem goes_cases {d : DeskM} (h : DInv d) {i : Nat} (hi : i < d.c.workers) (hi0 : (d.wk i).ticket ≠ 0) : PickC d i (d.goes i).1 (d.goes i).2.1 (d.goes i).2.2.1 (d.goes i).2.2.2 := by
  obtain ⟨hn, h2, hbeg, hdone, hfin, hdn⟩ := h.work i hi hi0
  have hwi : d.workers.getD i att0 = d.wk i := rfl
  have hax : play (d.job (d.wk i).ticket).steps (mapF (d.goods.take (d.wk i).beg)) (d.wk i).done mo0 = d.aX (d.wk i) := rfl
  unfold DeskM.goes
  simp only
  rw [hwi, hax]
  have hfull : ∀ k, (d.wk i).done + k = d.c.fuel → play (d.job (d.wk i).ticket).steps (mapF (d.goods.take (d.wk i).beg)) d.c.fuel mo0 = play (d.job (d.wk i).ticket).steps (mapF (d.goods.take (d.wk i).beg)) k (d.aX (d.wk i)) := fun k hk => by rw [← hk, play_add, hax]
  split
  · rename_i hpc
    refine looked_cases h hi0 ?_ ?_
    · rw [hfull (d.c.fuel - (d.wk i).done) (by omega), play_end (fun hh => by omega)]
    · rw [endState, if_pos hfin, if_pos hpc]
  · rename_i hpc
    split
    · rename_i hfu
      refine looked_cases h hi0 ?_ ?_
      · rw [hfull 0 (by omega)]; rfl
      · rw [endState, if_pos hfin, if_neg hpc]
    · rename_i hfu
      split
      · rename_i hyf
        refine looked_cases h hi0 ?_ ?_
        · have : (d.wk i).done + 1 + (d.c.fuel - ((d.wk i).done + 1)) = d.c.fuel := by omega
          rw [← this, play_add _ _ ((d.wk i).done + 1), play_end (fun hh => hyf hh.1)]
        · rw [endState, if_neg hyf]
      · exact .step rfl hi0 rfl rfl rfl
theorem pick_cases {d : DeskM} (h : DInv d) {i : Nat} (hi : i < d.c.workers) : (d.pick i).2.2 = 0 ∧ PickC d i (d.pick i).1 (d.pick i).2.1.1 (d.pick i).2.1.2.1 (d.pick i).2.1.2.2 := by
  have hw : d.workerB (i : Int) = true := by simp [DeskM.workerB]; exact hi
  have hwi : d.workers.getD i att0 = d.wk i := rfl
  unfold DeskM.pick
  rw [if_neg (by rw [hw]; simp), Int.toNat_natCast, hwi]
  by_cases h0 : (d.wk i).ticket = 0
  · rw [if_pos h0]
    refine ⟨rfl, ?_⟩
    by_cases hn : d.nextJob = 0
    · have : d.taken i = (d, 0, 0, 0) := by unfold DeskM.taken; simp only; rw [if_pos hn]
      rw [this]
      exact .rest h0 hn rfl rfl rfl rfl
    · have : (d.taken i).2 = (1, d.nextJob, 0) := by unfold DeskM.taken; simp only; rw [if_neg hn]
      rw [this]
      exact .took h0 rfl hn rfl rfl rfl
  · rw [if_neg h0]
    exact ⟨rfl, goes_cases h hi h0⟩
/-- sums over the jobs -/
theorem tot_upd {f g : Nat → Nat} {n : Nat} (hn : 1 ≤ n) : ∀ k, n ≤ k → (∀ m, 1 ≤ m → m ≤ k → m ≠ n → g m = f m) → tot g k + f n = tot f k + g n
  | 0, h, _ => by omega
  | k + 1, h, hm => by
    rw [tot, tot]
    by_cases e : n = k + 1
    · subst e
      have : tot g k = tot f k := Nat.le_antisymm (tot_le k fun m h1 h2 => Nat.le_of_eq (hm m h1 (by omega) (by omega))) (tot_le k fun m h1 h2 => Nat.le_of_eq (hm m h1 (by omega) (by omega)).symm)
      omega
    · have := tot_upd hn k (by omega) (fun m h1 h2 => hm m h1 (by omega))
      have := hm (k + 1) (by omega) (Nat.le_refl _) (Ne.symm e)
      omega
theorem tot_bd {f : Nat → Nat} {c : Nat} : ∀ k, (∀ m, 1 ≤ m → m ≤ k → f m ≤ c) → tot f k ≤ c * k
  | 0, _ => Nat.le_refl _
  | k + 1, h => by
    rw [tot, Nat.mul_add, Nat.mul_one]
    have := tot_bd k (fun m h1 h2 => h m h1 (by omega))
    have := h (k + 1) (by omega) (Nat.le_refl _)
    omega
structure KInv (R : RM) : Prop where
  inv : DInv R.d
  urg : UInv R.d
  conf : R.c = R.d.c
  fuel : 3 ≤ R.d.c.fuel
  len : R.tasks.length = R.d.jobs.length
  steps : ∀ n, R.d.Has n → (R.tk n).steps = (R.d.job n).steps
  fails : ∀ n, R.d.Has n → (R.tk n).fails = (R.d.job n).failed
  gone : ∀ n, R.d.Has n → (R.tk n).gone = decide ((R.d.job n).state = 6)
  tries : ∀ n, R.d.Has n → (R.d.job n).tries ≤ (R.tk n).fails + (R.tk n).kills + if (R.d.job n).state = 1 then 0 else 1
  foesN : ∀ n, R.d.Has n → (R.tk n).foes.length = (R.tk n).fails
  foes : ∀ n, R.d.Has n → ∀ f ∈ (R.tk n).foes, ∃ i, i < R.d.goods.length ∧ (gAt R.d.goods i).ticket = f ∧ ∀ k, k < R.d.c.workers → (R.d.wk k).ticket = n → i < (R.d.wk k).beg
  at_ : R.at_ = R.d.workers.map (·.ticket)
  order : R.order = R.d.goods.map (·.ticket)
  again : R.again = tot (fun n => (R.d.job n).failed) R.d.jobs.length
theorem tk_set {R : RM} {n m : Nat} (h1 : 1 ≤ n) (h2 : n ≤ R.tasks.length) (hm : 1 ≤ m) (t : TK) : (R.tasks.set (n - 1) t).getD (m - 1) tk0 = if m = n then t else R.tk m := by
  unfold RM.tk
  by_cases e : m = n
  · subst e
    rw [if_pos rfl]
    simp [List.getD, show m - 1 < R.tasks.length by omega]
  · rw [if_neg e]
    simp only [List.getD]
    rw [List.getElem?_set_ne (by omega)]
/-- one job changes -/
theorem KInv.upd {R R' : RM} (h : KInv R) (hd : DInv R'.d) (hu : UInv R'.d) {n : Nat} (hn : R.d.Has n) {j : JobM} {t : TK} (hj : R'.d.jobs = (R.d.setJob n j).jobs) (ht : R'.tasks = R.tasks.set (n - 1) t) (hc : R'.c = R.c) (hdc : R'.d.c = R.d.c)
    (hs : t.steps = j.steps) (hf : t.fails = j.failed) (hg : t.gone = decide (j.state = 6)) (htr : j.tries ≤ t.fails + t.kills + if j.state = 1 then 0 else 1) (hfn : t.foes.length = t.fails)
    (hgl : R.d.goods.length ≤ R'.d.goods.length) (hga : ∀ i, i < R.d.goods.length → gAt R'.d.goods i = gAt R.d.goods i)
    (hfo : ∀ f ∈ t.foes, ∃ i, i < R'.d.goods.length ∧ (gAt R'.d.goods i).ticket = f ∧ ∀ k, k < R.d.c.workers → (R'.d.wk k).ticket = n → i < (R'.d.wk k).beg)
    (hw : ∀ k, k < R.d.c.workers → R'.d.wk k = R.d.wk k ∨ (R'.d.wk k).ticket = 0 ∨ (R'.d.wk k).ticket = n)
    (hat : R'.at_ = R'.d.workers.map (·.ticket)) (hor : R'.order = R'.d.goods.map (·.ticket)) (hag : R'.again + (R.d.job n).failed = R.again + j.failed) : KInv R' := by
  have hlen : R'.d.jobs.length = R.d.jobs.length := by rw [hj, set_len]
  have hhas : ∀ m, R'.d.Has m ↔ R.d.Has m := fun m => by unfold DeskM.Has; rw [hlen]
  have hjob : ∀ m, 1 ≤ m → R'.d.job m = if m = n then j else R.d.job m := fun m hm => by
    have : R'.d.job m = (R.d.setJob n j).job m := by unfold DeskM.job; rw [hj]
    rw [this, job_set hn hm]
  have htk : ∀ m, 1 ≤ m → R'.tk m = if m = n then t else R.tk m := fun m hm => by
    show R'.tasks.getD (m - 1) tk0 = _
    rw [ht]
    exact tk_set hn.1 (by rw [h.len]; exact hn.2) hm t
  refine ⟨hd, hu, by rw [hc, hdc, h.conf], by rw [hdc]; exact h.fuel, by rw [ht, List.length_set, h.len, hlen], fun m hm => ?_, fun m hm => ?_, fun m hm => ?_, fun m hm => ?_, fun m hm => ?_, fun m hm => ?_, hat, hor, ?_⟩
  · rw [hjob m hm.1, htk m hm.1]
    by_cases e : m = n
    · rw [if_pos e, if_pos e]; exact hs
    · rw [if_neg e, if_neg e]; exact h.steps m ((hhas m).1 hm)
  · rw [hjob m hm.1, htk m hm.1]
    by_cases e : m = n
    · rw [if_pos e, if_pos e]; exact hf
    · rw [if_neg e, if_neg e]; exact h.fails m ((hhas m).1 hm)
  · rw [hjob m hm.1, htk m hm.1]
    by_cases e : m = n
    · rw [if_pos e, if_pos e]; exact hg
    · rw [if_neg e, if_neg e]; exact h.gone m ((hhas m).1 hm)
  · rw [hjob m hm.1, htk m hm.1]
    by_cases e : m = n
    · rw [if_pos e, if_pos e]; exact htr
    · rw [if_neg e, if_neg e]; exact h.tries m ((hhas m).1 hm)
  · rw [htk m hm.1]
    by_cases e : m = n
    · rw [if_pos e]; exact hfn
    · rw [if_neg e]; exact h.foesN m ((hhas m).1 hm)
  · rw [htk m hm.1, hdc]
    by_cases e : m = n
    · rw [if_pos e, e]; exact hfo
    · rw [if_neg e]
      intro f hf
      obtain ⟨i, h1, h2, h3⟩ := h.foes m ((hhas m).1 hm) f hf
      refine ⟨i, by omega, by rw [hga i h1]; exact h2, fun k hk ht => ?_⟩
      have hm1 := hm.1
      rcases hw k hk with e1 | e1 | e1
      · rw [e1] at ht ⊢; exact h3 k hk ht
      · omega
      · omega
  · have hb := tot_upd (f := fun n => (R.d.job n).failed) (g := fun n => (R'.d.job n).failed) hn.1 R.d.jobs.length hn.2 (fun m h1 h2 e => by show (R'.d.job m).failed = _; rw [hjob m h1, if_neg e])
    have e1 : (R'.d.job n).failed = j.failed := by rw [hjob n hn.1, if_pos rfl]
    simp only [e1] at hb
    rw [hlen]
    have := h.again
    omega
namespace RM
/-- a job is handed in -/
def sayR (R : RM) (l : List St) : RM := if R.d.c.queue ≤ R.d.waiting then R else { R with d := (R.d.submit l).1, tasks := R.tasks ++ [⟨l, 0, 0, false, []⟩] }
/-- a worker is picked -/
def pickN (R : RM) (i : Nat) (e : DeskM) (k : Int) (n p : Nat) : RM :=
  if k = 1 then { R with d := e, at_ := R.at_.set i n }
  else if k = 3 then { R with d := e, at_ := R.at_.set i 0, order := R.order ++ [n] }
  else if k = 4 then { R with d := e, at_ := R.at_.set i 0, again := R.again + 1, tasks := R.tasks.set (n - 1) { R.tk n with fails := (R.tk n).fails + 1, foes := (R.tk n).foes ++ [p] } }
  else { R with d := e }
def pickR (R : RM) (i : Nat) : RM := R.pickN i (R.d.pick i).1 (R.d.pick i).2.1.1 (R.d.pick i).2.1.2.1 (R.d.pick i).2.1.2.2
def killR (R : RM) (i : Nat) : RM :=
  let n := (R.d.wk i).ticket
  if n = 0 then R else { R with d := (R.d.kill i).1, at_ := R.at_.set i 0, tasks := R.tasks.set (n - 1) { R.tk n with kills := (R.tk n).kills + 1 } }
def cancelR (R : RM) (n : Nat) : RM :=
  if 2 < (R.d.job n).state then R else { R with d := (R.d.cancel n).1, at_ := R.at_.map fun k => if k = n then 0 else k, tasks := R.tasks.set (n - 1) { R.tk n with gone := true } }
end RM
theorem map_set_ticket (l : List AttM) (i : Nat) (a : AttM) : (l.set i a).map (·.ticket) = (l.map (·.ticket)).set i a.ticket := by rw [List.map_set]
theorem KInv.say {R : RM} (h : KInv R) {l : List St} (hl : jobB l = true) : KInv (R.sayR l) := by
  unfold RM.sayR
  by_cases hq : R.d.c.queue ≤ R.d.waiting
  · rw [if_pos hq]; exact h
  · rw [if_neg hq]
    have he : (R.d.submit l).1 = { R.d with jobs := R.d.jobs ++ [⟨l, 1, [], 0, 0, false⟩], queue := R.d.queue ++ [R.d.jobs.length + 1] } := by
      unfold DeskM.submit
      rw [if_neg (by rw [hl]; simp), if_neg hq]
    obtain ⟨e, hee⟩ : ∃ e, e = (R.d.submit l).1 := ⟨_, rfl⟩
    have hd : DInv e := by rw [hee]; exact h.inv.submit l
    have hu : UInv e := by rw [hee]; exact h.urg.submit h.inv l
    rw [← hee]
    rw [← hee] at he
    have hjl : e.jobs.length = R.d.jobs.length + 1 := by rw [he]; simp
    have hold : ∀ m, R.d.Has m → e.job m = R.d.job m := fun m hm => by
      have h1 := hm.1
      have h2 := hm.2
      rw [he]
      simp only [DeskM.job, List.getD]
      rw [List.getElem?_append_left (by omega)]
    have hnew : e.job (R.d.jobs.length + 1) = ⟨l, 1, [], 0, 0, false⟩ := by rw [he]; simp [DeskM.job, List.getD]
    have htold : ∀ m, R.d.Has m → RM.tk ⟨e, R.c, R.tasks ++ [⟨l, 0, 0, false, []⟩], R.order, R.at_, R.again, R.xb⟩ m = R.tk m := fun m hm => by
      have h1 := hm.1
      have h2 := hm.2
      have h3 := h.len
      simp only [RM.tk, List.getD]
      rw [List.getElem?_append_left (by omega)]
    have htnew : RM.tk ⟨e, R.c, R.tasks ++ [⟨l, 0, 0, false, []⟩], R.order, R.at_, R.again, R.xb⟩ (R.d.jobs.length + 1) = ⟨l, 0, 0, false, []⟩ := by simp [RM.tk, List.getD, ← h.len]
    have hcase : ∀ m, e.Has m → R.d.Has m ∨ m = R.d.jobs.length + 1 := fun m hm => by
      have h1 := hm.1
      have h2 := hm.2
      rw [hjl] at h2
      by_cases e1 : m = R.d.jobs.length + 1
      · exact Or.inr e1
      · exact Or.inl ⟨h1, by omega⟩
    have hcc : e.c = R.d.c := by rw [he]
    have hgg : e.goods = R.d.goods := by rw [he]
    have hww : e.workers = R.d.workers := by rw [he]
    have hwk : ∀ k, e.wk k = R.d.wk k := fun k => by unfold DeskM.wk; rw [hww]
    refine ⟨hd, hu, by rw [hcc]; exact h.conf, by rw [hcc]; exact h.fuel, by show (R.tasks ++ [_]).length = e.jobs.length; rw [hjl, List.length_append, h.len]; rfl, fun m hm => ?_, fun m hm => ?_, fun m hm => ?_, fun m hm => ?_, fun m hm => ?_, fun m hm => ?_, by rw [hww]; exact h.at_, by rw [hgg]; exact h.order, ?_⟩
    · rcases hcase m hm with hm' | rfl
      · show (RM.tk _ m).steps = (e.job m).steps; rw [htold m hm', hold m hm']; exact h.steps m hm'
      · show (RM.tk _ (R.d.jobs.length + 1)).steps = (e.job (R.d.jobs.length + 1)).steps; rw [htnew, hnew]
    · rcases hcase m hm with hm' | rfl
      · show (RM.tk _ m).fails = (e.job m).failed; rw [htold m hm', hold m hm']; exact h.fails m hm'
      · show (RM.tk _ (R.d.jobs.length + 1)).fails = (e.job (R.d.jobs.length + 1)).failed; rw [htnew, hnew]
    · rcases hcase m hm with hm' | rfl
      · show (RM.tk _ m).gone = decide ((e.job m).state = 6); rw [htold m hm', hold m hm']; exact h.gone m hm'
      · show (RM.tk _ (R.d.jobs.length + 1)).gone = decide ((e.job (R.d.jobs.length + 1)).state = 6); rw [htnew, hnew]; rfl
    · rcases hcase m hm with hm' | rfl
      · show (e.job m).tries ≤ (RM.tk _ m).fails + (RM.tk _ m).kills + _; rw [htold m hm', hold m hm']; exact h.tries m hm'
      · show (e.job (R.d.jobs.length + 1)).tries ≤ _; rw [hnew]; exact Nat.zero_le _
    · rcases hcase m hm with hm' | rfl
      · show (RM.tk _ m).foes.length = (RM.tk _ m).fails; rw [htold m hm']; exact h.foesN m hm'
      · show (RM.tk _ (R.d.jobs.length + 1)).foes.length = (RM.tk _ (R.d.jobs.length + 1)).fails; rw [htnew]; rfl
    · show ∀ f ∈ (RM.tk _ m).foes, ∃ i, i < e.goods.length ∧ (gAt e.goods i).ticket = f ∧ ∀ k, k < e.c.workers → (e.wk k).ticket = m → i < (e.wk k).beg
      rw [hgg, hcc]
      simp only [hwk]
      rcases hcase m hm with hm' | rfl
      · rw [htold m hm']; exact h.foes m hm'
      · rw [htnew]; intro f hf; cases hf
    · show R.again = tot (fun n => (e.job n).failed) e.jobs.length
      rw [hjl, tot, hnew, h.again]
      exact Nat.le_antisymm (tot_le _ fun m h1 h2 => by rw [hold m ⟨h1, h2⟩]; exact Nat.le_refl _) (tot_le _ fun m h1 h2 => by rw [hold m ⟨h1, h2⟩]; exact Nat.le_refl _)
theorem KInv.pick {R : RM} (h : KInv R) {i : Nat} (hi : i < R.d.c.workers) : KInv (R.pickR i) := by
  have hd := h.inv.pick i
  have hu := h.urg.pick h.inv i
  have hil : i < R.d.workers.length := by rw [h.inv.wlen]; exact hi
  have hwi : ∀ a k, (R.d.workers.set i a).getD k att0 = if k = i then a else R.d.wk k := fun a k => wk_set hil a k
  obtain ⟨_, hc⟩ := pick_cases h.inv hi
  unfold RM.pickR
  generalize (R.d.pick i).1 = e at *
  generalize (R.d.pick i).2.1.1 = k at *
  generalize (R.d.pick i).2.1.2.1 = n at *
  generalize (R.d.pick i).2.1.2.2 = p at *
  cases hc with
  | rest h0 hn he hk hn0 hp =>
    subst he hk
    exact h
  | took h0 hn hn0 he hk hp =>
    subst hk
    have hm := next_mem (d := R.d) (by rw [← hn]; exact hn0)
    rw [← hn] at hm
    have hhas : R.d.Has n ∧ (R.d.job n).state = 1 := by
      rcases hm with hm | hm
      · exact ⟨((h.inv.urM n).1 hm).1, ((h.inv.urM n).1 hm).2.1⟩
      · exact ⟨((h.inv.quM n).1 hm).1, ((h.inv.quM n).1 hm).2.1⟩
    have he' : e = { R.d.setJob n { R.d.job n with state := 2, tries := (R.d.job n).tries + 1 } with queue := DeskM.left R.d.queue n, urgent := DeskM.left R.d.urgent n, workers := R.d.workers.set i ⟨n, R.d.goods.length, 0⟩ } := by
      rw [he]; unfold DeskM.taken; simp only; rw [← hn, if_neg hn0]
    have hwk : ∀ k, e.wk k = if k = i then ⟨n, R.d.goods.length, 0⟩ else R.d.wk k := fun k => by rw [he']; exact hwi _ k
    have hr : R.pickN i e 1 n p = { R with d := e, at_ := R.at_.set i n } := rfl
    rw [hr]
    have htr := h.tries n hhas.1
    rw [if_pos hhas.2] at htr
    have hset : R.tasks = R.tasks.set (n - 1) (R.tk n) := by
      have h1 := hhas.1.1
      have h2 := hhas.1.2
      have h3 := h.len
      have hl : n - 1 < R.tasks.length := by omega
      have : R.tk n = R.tasks[n - 1] := by simp [RM.tk, List.getD, hl]
      rw [this, List.set_getElem_self]
    refine h.upd (R' := { R with d := e, at_ := R.at_.set i n }) hd hu hhas.1 (j := { R.d.job n with state := 2, tries := (R.d.job n).tries + 1 }) (t := R.tk n) (by rw [he']) hset rfl (by rw [he']; rfl) (h.steps n hhas.1) (h.fails n hhas.1) (by rw [h.gone n hhas.1, hhas.2]; rfl) ?_ (h.foesN n hhas.1) (by rw [he']; exact Nat.le_refl _) (fun _ _ => by rw [he']; rfl) ?_ (fun k hk => ?_) ?_ ?_ ?_
    · show (R.d.job n).tries + 1 ≤ (R.tk n).fails + (R.tk n).kills + 1
      omega
    · intro f hf
      obtain ⟨q, h1, h2, h3⟩ := h.foes n hhas.1 f hf
      have hgg : e.goods = R.d.goods := by rw [he']; rfl
      refine ⟨q, by show q < e.goods.length; rw [hgg]; exact h1, by show (gAt e.goods q).ticket = f; rw [hgg]; exact h2, fun k hk ht => ?_⟩
      have ht : (e.wk k).ticket = n := ht
      show q < (e.wk k).beg
      rw [hwk] at ht ⊢
      by_cases e1 : k = i
      · rw [if_pos e1]; exact h1
      · rw [if_neg e1] at ht ⊢; exact h3 k hk ht
    · show e.wk k = R.d.wk k ∨ (e.wk k).ticket = 0 ∨ (e.wk k).ticket = n
      rw [hwk]
      by_cases e1 : k = i
      · rw [if_pos e1]; exact Or.inr (Or.inr rfl)
      · rw [if_neg e1]; exact Or.inl rfl
    · show R.at_.set i n = e.workers.map (·.ticket)
      rw [he', map_set_ticket, h.at_]
    · show R.order = e.goods.map (·.ticket)
      rw [he']; exact h.order
    · rfl
  | step h0 hn0 he hk hp =>
    subst hk
    have hr : R.pickN i e 2 n p = { R with d := e } := rfl
    rw [hr]
    have hhas := h.inv.work i hi (by rw [h0]; exact hn0)
    rw [h0] at hhas
    have hwk : ∀ k, e.wk k = if k = i then { R.d.wk i with done := (R.d.wk i).done + 1 } else R.d.wk k := fun k => by rw [he]; exact hwi _ k
    have hwt : ∀ k, (e.wk k).ticket = (R.d.wk k).ticket ∧ (e.wk k).beg = (R.d.wk k).beg := fun k => by
      rw [hwk]
      by_cases e1 : k = i
      · rw [if_pos e1, e1]; exact ⟨rfl, rfl⟩
      · rw [if_neg e1]; exact ⟨rfl, rfl⟩
    have hjb : ∀ m, e.job m = R.d.job m := fun m => by rw [he]; rfl
    have hgg : e.goods = R.d.goods := by rw [he]
    have hjl : e.jobs = R.d.jobs := by rw [he]
    have hcc : e.c = R.d.c := by rw [he]
    have hh : ∀ m, e.Has m → R.d.Has m := fun m hm => by unfold DeskM.Has at *; rw [hjl] at hm; exact hm
    refine ⟨hd, hu, by rw [hcc]; exact h.conf, by rw [hcc]; exact h.fuel, by rw [hjl]; exact h.len, fun m hm => ?_, fun m hm => ?_, fun m hm => ?_, fun m hm => ?_, fun m hm => h.foesN m (hh m hm), fun m hm => ?_, ?_, by rw [hgg]; exact h.order, ?_⟩
    · rw [hjb]; exact h.steps m (hh m hm)
    · rw [hjb]; exact h.fails m (hh m hm)
    · rw [hjb]; exact h.gone m (hh m hm)
    · rw [hjb]; exact h.tries m (hh m hm)
    · show ∀ f ∈ (R.tk m).foes, ∃ i, i < e.goods.length ∧ (gAt e.goods i).ticket = f ∧ ∀ k, k < e.c.workers → (e.wk k).ticket = m → i < (e.wk k).beg
      rw [hgg, hcc]
      simp only [hwt]
      exact h.foes m (hh m hm)
    · show R.at_ = e.workers.map (·.ticket)
      rw [he, map_set_ticket, h.at_]
      have hl : i < (R.d.workers.map (·.ticket)).length := by simpa using hil
      have hx : (R.d.wk i).ticket = (R.d.workers.map (·.ticket))[i] := by simp [DeskM.wk, List.getD, hil]
      show _ = (R.d.workers.map (·.ticket)).set i (R.d.wk i).ticket
      rw [hx, List.set_getElem_self]
    · show R.again = tot (fun n => (e.job n).failed) e.jobs.length
      rw [hjl, h.again]
      simp only [hjb]
  | good h0 hn0 st x t hx hst ht he hk hp =>
    subst hk
    have hr : R.pickN i e 3 n p = { R with d := e, at_ := R.at_.set i 0, order := R.order ++ [n] } := rfl
    rw [hr]
    have hhas := h.inv.work i hi (by rw [h0]; exact hn0)
    rw [h0] at hhas
    have hfin : x.fin = 0 ∨ x.fin = 4 ∨ x.fin = 5 := by rw [hx]; exact play_fin _ _ _ _ (Or.inl rfl)
    have hbd : 3 ≤ st ∧ st ≤ 5 := by rw [hst]; exact end_bd hfin
    have hwk : ∀ k, e.wk k = if k = i then att0 else R.d.wk k := fun k => by rw [he]; exact hwi _ k
    have htr := h.tries n hhas.1
    rw [if_neg (by rw [hhas.2.1]; omega)] at htr
    have hgg : e.goods = R.d.goods ++ [t] := by rw [he]
    have hset : R.tasks = R.tasks.set (n - 1) (R.tk n) := by
      have h1 := hhas.1.1
      have h2 := hhas.1.2
      have h3 := h.len
      have hl : n - 1 < R.tasks.length := by omega
      have : R.tk n = R.tasks[n - 1] := by simp [RM.tk, List.getD, hl]
      rw [this, List.set_getElem_self]
    refine h.upd (R' := { R with d := e, at_ := R.at_.set i 0, order := R.order ++ [n] }) hd hu hhas.1 (j := { R.d.job n with state := st, told := x.told }) (t := R.tk n) (by rw [he]) hset rfl (by rw [he]; rfl) (h.steps n hhas.1) (h.fails n hhas.1) ?_ ?_ (h.foesN n hhas.1) (by show R.d.goods.length ≤ e.goods.length; rw [hgg]; simp) (fun q hq => by show gAt e.goods q = _; rw [hgg]; exact gAt_old hq) ?_ (fun k hk => ?_) ?_ ?_ ?_
    · rw [h.gone n hhas.1, hhas.2.1]
      have : ¬ st = 6 := by omega
      simp [this]
    · show (R.d.job n).tries ≤ (R.tk n).fails + (R.tk n).kills + if st = 1 then 0 else 1
      rw [if_neg (by omega)]; exact htr
    · intro f hf
      obtain ⟨q, h1, h2, h3⟩ := h.foes n hhas.1 f hf
      refine ⟨q, by show q < e.goods.length; rw [hgg]; simp; omega, by show (gAt e.goods q).ticket = f; rw [hgg, gAt_old h1]; exact h2, fun k hk ht => ?_⟩
      have ht : (e.wk k).ticket = n := ht
      show q < (e.wk k).beg
      rw [hwk] at ht ⊢
      by_cases e1 : k = i
      · rw [if_pos e1] at ht; exact absurd ht.symm hn0
      · rw [if_neg e1] at ht ⊢; exact h3 k hk ht
    · show e.wk k = R.d.wk k ∨ (e.wk k).ticket = 0 ∨ (e.wk k).ticket = n
      rw [hwk]
      by_cases e1 : k = i
      · rw [if_pos e1]; exact Or.inr (Or.inl rfl)
      · rw [if_neg e1]; exact Or.inl rfl
    · show R.at_.set i 0 = e.workers.map (·.ticket)
      rw [he, map_set_ticket, h.at_]; rfl
    · show R.order ++ [n] = e.goods.map (·.ticket)
      rw [hgg, List.map_append, h.order, ht]; rfl
    · rfl
  | fail h0 hn0 q hq hp hp3 j hj hej heg hew hec hk x t hx ht htp =>
    subst hk
    have hr : R.pickN i e 4 n p = { R with d := e, at_ := R.at_.set i 0, again := R.again + 1, tasks := R.tasks.set (n - 1) { R.tk n with fails := (R.tk n).fails + 1, foes := (R.tk n).foes ++ [p] } } := rfl
    rw [hr]
    have hhas := h.inv.work i hi (by rw [h0]; exact hn0)
    rw [h0] at hhas
    have hwk : ∀ k, e.wk k = if k = i then att0 else R.d.wk k := fun k => by unfold DeskM.wk; rw [hew]; exact hwi _ k
    have htr := h.tries n hhas.1
    rw [if_neg (by rw [hhas.2.1]; omega)] at htr
    have hno : ∀ k, k < R.d.c.workers → (e.wk k).ticket ≠ n := fun k hk ht => by
      rw [hwk] at ht
      by_cases e1 : k = i
      · rw [if_pos e1] at ht; exact hn0 ht.symm
      · rw [if_neg e1] at ht; exact e1 (h.inv.one k i hk hi (by rw [ht, h0]) (by rw [ht]; exact hn0))
    refine h.upd (R' := { R with d := e, at_ := R.at_.set i 0, again := R.again + 1, tasks := R.tasks.set (n - 1) { R.tk n with fails := (R.tk n).fails + 1, foes := (R.tk n).foes ++ [p] } }) hd hu hhas.1 (j := j) (t := { R.tk n with fails := (R.tk n).fails + 1, foes := (R.tk n).foes ++ [p] }) hej rfl rfl hec (by rw [hj.2.2.1]; exact h.steps n hhas.1) (by rw [hj.2.1, ← h.fails n hhas.1]) ?_ ?_ (by show ((R.tk n).foes ++ [p]).length = _; rw [List.length_append, h.foesN n hhas.1]; rfl) (by show R.d.goods.length ≤ e.goods.length; rw [heg]; exact Nat.le_refl _) (fun q hq => by show gAt e.goods q = _; rw [heg]) ?_ (fun k hk => ?_) ?_ ?_ ?_
    · rw [hj.1]
      show (R.tk n).gone = _
      rw [h.gone n hhas.1, hhas.2.1]; rfl
    · show j.tries ≤ (R.tk n).fails + 1 + (R.tk n).kills + if j.state = 1 then 0 else 1
      rw [hj.2.2.2]; omega
    · intro f hf
      have hf' : f ∈ (R.tk n).foes ++ [p] := hf
      rcases List.mem_append.1 hf' with hf | hf
      · obtain ⟨q, h1, h2, h3⟩ := h.foes n hhas.1 f hf
        exact ⟨q, by show q < e.goods.length; rw [heg]; exact h1, by show (gAt e.goods q).ticket = f; rw [heg]; exact h2, fun k hk ht => absurd ht (hno k hk)⟩
      · rw [List.mem_singleton.1 hf]
        exact ⟨q, by show q < e.goods.length; rw [heg]; exact hq.2, by show (gAt e.goods q).ticket = p; rw [heg, hp], fun k hk ht => absurd ht (hno k hk)⟩
    · show e.wk k = R.d.wk k ∨ (e.wk k).ticket = 0 ∨ (e.wk k).ticket = n
      rw [hwk]
      by_cases e1 : k = i
      · rw [if_pos e1]; exact Or.inr (Or.inl rfl)
      · rw [if_neg e1]; exact Or.inl rfl
    · show R.at_.set i 0 = e.workers.map (·.ticket)
      rw [hew, map_set_ticket, h.at_]; rfl
    · show R.order = e.goods.map (·.ticket)
      rw [heg]; exact h.order
    · show R.again + 1 + (R.d.job n).failed = R.again + j.failed
      rw [hj.2.1]; omega
/-- the partner is another one, committed, and was none before -/
theorem KInv.foe {R : RM} (h : KInv R) {i : Nat} (hi : i < R.d.c.workers) {n : Nat} (h0 : (R.d.wk i).ticket = n) (hn0 : n ≠ 0) {q : Nat} (hq : (R.d.wk i).beg ≤ q ∧ q < R.d.goods.length) {p : Nat} (hp : p = (gAt R.d.goods q).ticket) (hp3 : R.d.Has p ∧ (R.d.job p).state = 3) : p ≠ n ∧ p ∉ (R.tk n).foes := by
  have hhas := h.inv.work i hi (by rw [h0]; exact hn0)
  rw [h0] at hhas
  refine ⟨fun e => ?_, fun hf => ?_⟩
  · have := hp3.2; rw [e, hhas.2.1] at this; omega
  · obtain ⟨s, h1, h2, h3⟩ := h.foes n hhas.1 p hf
    have := h3 i hi h0
    have := h.inv.g.gone s q h1 hq.2 (by rw [h2, hp])
    omega
theorem KInv.kill {R : RM} (h : KInv R) {i : Nat} (hi : i < R.d.c.workers) : KInv (R.killR i) := by
  have hd := h.inv.kill i
  have hu := h.urg.kill h.inv i
  unfold RM.killR
  simp only
  obtain ⟨n, hn⟩ : ∃ n, n = (R.d.wk i).ticket := ⟨_, rfl⟩
  rw [← hn]
  by_cases hn0 : n = 0
  · rw [if_pos hn0]; exact h
  · rw [if_neg hn0]
    have hil : i < R.d.workers.length := by rw [h.inv.wlen]; exact hi
    have hwi : ∀ a k, (R.d.workers.set i a).getD k att0 = if k = i then a else R.d.wk k := fun a k => wk_set hil a k
    have hhas := h.inv.work i hi (by rw [← hn]; exact hn0)
    rw [← hn] at hhas
    have hw : R.d.workerB (i : Int) = true := by simp [DeskM.workerB]; exact hi
    have hke : (R.d.kill i).1 = if (R.d.job n).urgent then { R.d.setJob n { R.d.job n with state := 1 } with workers := R.d.workers.set i att0, urgent := n :: R.d.urgent } else { R.d.setJob n { R.d.job n with state := 1 } with workers := R.d.workers.set i att0, queue := n :: R.d.queue } := by
      have hwn : R.d.workers.getD i att0 = R.d.wk i := rfl
      unfold DeskM.kill
      rw [if_neg (by rw [hw]; simp), Int.toNat_natCast]
      simp only
      rw [hwn, ← hn, if_neg hn0]
      rfl
    generalize (R.d.kill i).1 = e at *
    have hej : e.jobs = (R.d.setJob n { R.d.job n with state := 1 }).jobs := by rw [hke]; split <;> rfl
    have heg : e.goods = R.d.goods := by rw [hke]; split <;> rfl
    have hew : e.workers = R.d.workers.set i att0 := by rw [hke]; split <;> rfl
    have hec : e.c = R.d.c := by rw [hke]; split <;> rfl
    have hwk : ∀ k, e.wk k = if k = i then att0 else R.d.wk k := fun k => by unfold DeskM.wk; rw [hew]; exact hwi _ k
    have htr := h.tries n hhas.1
    rw [if_neg (by rw [hhas.2.1]; omega)] at htr
    have hno : ∀ k, k < R.d.c.workers → (e.wk k).ticket ≠ n := fun k hk ht => by
      rw [hwk] at ht
      by_cases e1 : k = i
      · rw [if_pos e1] at ht; exact hn0 ht.symm
      · rw [if_neg e1] at ht; exact e1 (h.inv.one k i hk hi (by rw [ht, hn]) (by rw [ht]; exact hn0))
    refine h.upd (R' := { R with d := e, at_ := R.at_.set i 0, tasks := R.tasks.set (n - 1) { R.tk n with kills := (R.tk n).kills + 1 } }) hd hu hhas.1 (j := { R.d.job n with state := 1 }) (t := { R.tk n with kills := (R.tk n).kills + 1 }) hej rfl rfl hec (h.steps n hhas.1) (h.fails n hhas.1) ?_ ?_ (h.foesN n hhas.1) (by show R.d.goods.length ≤ e.goods.length; rw [heg]; exact Nat.le_refl _) (fun q hq => by show gAt e.goods q = _; rw [heg]) ?_ (fun k hk => ?_) ?_ ?_ rfl
    · show (R.tk n).gone = _
      rw [h.gone n hhas.1, hhas.2.1]; rfl
    · show (R.d.job n).tries ≤ (R.tk n).fails + ((R.tk n).kills + 1) + 0
      omega
    · intro f hf
      obtain ⟨q, h1, h2, h3⟩ := h.foes n hhas.1 f hf
      exact ⟨q, by show q < e.goods.length; rw [heg]; exact h1, by show (gAt e.goods q).ticket = f; rw [heg]; exact h2, fun k hk ht => absurd ht (hno k hk)⟩
    · show e.wk k = R.d.wk k ∨ (e.wk k).ticket = 0 ∨ (e.wk k).ticket = n
      rw [hwk]
      by_cases e1 : k = i
      · rw [if_pos e1]; exact Or.inr (Or.inl rfl)
      · rw [if_neg e1]; exact Or.inl rfl
    · show R.at_.set i 0 = e.workers.map (·.ticket)
      rw [hew, map_set_ticket, h.at_]; rfl
    · show R.order = e.goods.map (·.ticket)
      rw [heg]; exact h.order
theorem KInv.cancel {R : RM} (h : KInv R) {n : Nat} (hn : R.d.Has n) : KInv (R.cancelR n) := by
  have hd := h.inv.cancel n
  have hu := h.urg.cancel h.inv n
  unfold RM.cancelR
  by_cases h2 : 2 < (R.d.job n).state
  · rw [if_pos h2]; exact h
  · rw [if_neg h2]
    have hn1 := hn.1
    have hn2 := hn.2
    have hst := (h.inv.jobs n hn).2.1
    have hce : (R.d.cancel n).1 = { R.d.setJob n { R.d.job n with state := 6 } with queue := DeskM.left R.d.queue n, urgent := DeskM.left R.d.urgent n, workers := R.d.workers.map fun a => if a.ticket = n then att0 else a } := by
      unfold DeskM.cancel
      rw [if_neg (by simp [DeskM.ticketB]; omega), Int.toNat_natCast, if_neg h2]
    generalize (R.d.cancel n).1 = e at *
    have hwk : ∀ k, k < R.d.c.workers → e.wk k = if (R.d.wk k).ticket = n then att0 else R.d.wk k := fun k hk => by
      have hk' : k < R.d.workers.length := by rw [h.inv.wlen]; exact hk
      rw [hce]
      simp [DeskM.wk, List.getD, hk']
    have heg : e.goods = R.d.goods := by rw [hce]; rfl
    have htr := h.tries n hn
    have hno : ∀ k, k < R.d.c.workers → (e.wk k).ticket ≠ n := fun k hk ht => by
      rw [hwk k hk] at ht
      by_cases e1 : (R.d.wk k).ticket = n
      · rw [if_pos e1] at ht; have ht : 0 = n := ht; omega
      · rw [if_neg e1] at ht; exact e1 ht
    refine h.upd (R' := { R with d := e, at_ := R.at_.map fun k => if k = n then 0 else k, tasks := R.tasks.set (n - 1) { R.tk n with gone := true } }) hd hu hn (j := { R.d.job n with state := 6 }) (t := { R.tk n with gone := true }) (by rw [hce]) rfl rfl (by rw [hce]; rfl) (h.steps n hn) (h.fails n hn) rfl ?_ (h.foesN n hn) (by show R.d.goods.length ≤ e.goods.length; rw [heg]; exact Nat.le_refl _) (fun q hq => by show gAt e.goods q = _; rw [heg]) ?_ (fun k hk => ?_) ?_ ?_ rfl
    · show (R.d.job n).tries ≤ (R.tk n).fails + (R.tk n).kills + 1
      split at htr <;> omega
    · intro f hf
      obtain ⟨q, h1, h2, h3⟩ := h.foes n hn f hf
      exact ⟨q, by show q < e.goods.length; rw [heg]; exact h1, by show (gAt e.goods q).ticket = f; rw [heg]; exact h2, fun k hk ht => absurd ht (hno k hk)⟩
    · show e.wk k = R.d.wk k ∨ (e.wk k).ticket = 0 ∨ (e.wk k).ticket = n
      rw [hwk k hk]
      by_cases e1 : (R.d.wk k).ticket = n
      · rw [if_pos e1]; exact Or.inr (Or.inl rfl)
      · rw [if_neg e1]; exact Or.inl rfl
    · show (R.at_.map fun k => if k = n then 0 else k) = e.workers.map (·.ticket)
      rw [hce, h.at_]
      simp only [List.map_map]
      refine List.map_congr_left fun a _ => ?_
      simp only [Function.comp]
      split <;> rfl
    · show R.order = e.goods.map (·.ticket)
      rw [heg]; exact h.order
end Go.Proofs.Ytlbmcdoldnajoab
