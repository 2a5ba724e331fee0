import Derived.Test.YtlbmcdoldnajoaaGreatDeskG
namespace Go.Proofs.YtlbmcdoldnajoaaGreat
def DeskM.wk (d : DeskM) (i : Nat) : AttM := d.workers.getD i att0
def DeskM.aX (d : DeskM) (a : AttM) : Mo := play (d.job a.ticket).steps (mapF (d.goods.take a.beg)) a.done mo0
structure DInv (d : DeskM) : Prop where
  g : GInv d
  conf : (1 ≤ d.c.workers ∧ d.c.workers ≤ 4) ∧ (1 ≤ d.c.queue ∧ d.c.queue ≤ 8) ∧ (1 ≤ d.c.fuel ∧ d.c.fuel ≤ 200) ∧ d.c.patience ≤ 5
  wlen : d.workers.length = d.c.workers
  jobs : ∀ n, d.Has n → jobB (d.job n).steps = true ∧ 1 ≤ (d.job n).state ∧ (d.job n).state ≤ 6
  quiet : ∀ n, d.Has n → ((d.job n).state ≤ 2 ∨ (d.job n).state = 6) → (d.job n).told = []
  quD : d.queue.Nodup
  quM : ∀ n, n ∈ d.queue ↔ d.Has n ∧ (d.job n).state = 1 ∧ (d.job n).urgent = false
  urD : d.urgent.Nodup
  urM : ∀ n, n ∈ d.urgent ↔ d.Has n ∧ (d.job n).state = 1 ∧ (d.job n).urgent = true
  work : ∀ i, i < d.c.workers → (d.wk i).ticket ≠ 0 → d.Has (d.wk i).ticket ∧ (d.job (d.wk i).ticket).state = 2 ∧ (d.wk i).beg ≤ d.goods.length ∧ (d.wk i).done ≤ d.c.fuel ∧ (d.aX (d.wk i)).fin = 0 ∧ (d.aX (d.wk i)).done = (d.wk i).done
  idle0 : ∀ i, i < d.c.workers → (d.wk i).ticket = 0 → d.wk i = att0
  runs : ∀ n, d.Has n → (d.job n).state = 2 → ∃ i, i < d.c.workers ∧ (d.wk i).ticket = n
  one : ∀ i k, i < d.c.workers → k < d.c.workers → (d.wk i).ticket = (d.wk k).ticket → (d.wk i).ticket ≠ 0 → i = k
  hurt : ∀ n, d.Has n → (d.job n).urgent = true → d.c.patience < (d.job n).failed
theorem dinv0 {c : ConfM} (hc : (1 ≤ c.workers ∧ c.workers ≤ 4) ∧ (1 ≤ c.queue ∧ c.queue ≤ 8) ∧ (1 ≤ c.fuel ∧ c.fuel ≤ 200) ∧ c.patience ≤ 5) : DInv (desk0 c) := by
  have hwk : ∀ i, (desk0 c).wk i = att0 := fun i => by
    simp only [DeskM.wk, desk0, List.getD]
    by_cases h : i < c.workers
    · simp [h]
    · simp [List.getElem?_eq_none (show (List.replicate c.workers att0).length ≤ i by simp; omega)]
  have hno : ∀ n, ¬ (desk0 c).Has n := fun n h => by have h1 := h.1; have h2 := h.2; simp [desk0] at h2; omega
  refine ⟨ginv0 c, hc, by simp [desk0], fun n h => absurd h (hno n), fun n h => absurd h (hno n), by simp [desk0], fun n => ?_, by simp [desk0], fun n => ?_, fun i _ h => ?_, fun i _ _ => hwk i, fun n h => absurd h (hno n), fun i k _ _ _ h => ?_, fun n h => absurd h (hno n)⟩
  · constructor
    · intro h; simp [desk0] at h
    · intro h; exact absurd h.1 (hno n)
  · constructor
    · intro h; simp [desk0] at h
    · intro h; exact absurd h.1 (hno n)
  · rw [hwk] at h; exact absurd rfl h
  · rw [hwk] at h; exact absurd rfl h
theorem dinv_stop {d e : DeskM} (h : DInv d) {n : Nat} (hn : d.Has n) {j : JobM} (hur : j.urgent = true → d.c.patience < j.failed) (hs : j.steps = (d.job n).steps) (hstate : 1 ≤ j.state ∧ j.state ≤ 6) (h2 : j.state ≠ 2) (hq0 : (j.state ≤ 2 ∨ j.state = 6) → j.told = [])
    (hc : e.c = d.c) (he : e.jobs = (d.setJob n j).jobs) (hge : GInv e) (hgl : d.goods.length ≤ e.goods.length) (hgt : ∀ b, b ≤ d.goods.length → e.goods.take b = d.goods.take b) (hwl : e.workers.length = d.workers.length)
    (hqd : e.queue.Nodup) (hqm : ∀ m, m ∈ e.queue ↔ (m = n ∧ j.state = 1 ∧ j.urgent = false) ∨ (m ≠ n ∧ m ∈ d.queue))
    (hud : e.urgent.Nodup) (hum : ∀ m, m ∈ e.urgent ↔ (m = n ∧ j.state = 1 ∧ j.urgent = true) ∨ (m ≠ n ∧ m ∈ d.urgent))
    (hw : ∀ k, k < d.c.workers → e.wk k = if (d.wk k).ticket = n then att0 else d.wk k) : DInv e := by
  have hlen : e.jobs.length = d.jobs.length := by rw [he, set_len]
  have hhas : ∀ m, e.Has m ↔ d.Has m := fun m => by unfold DeskM.Has; rw [hlen]
  have hjob : ∀ m, 1 ≤ m → e.job m = if m = n then j else d.job m := fun m hm => by
    have : e.job m = (d.setJob n j).job m := by unfold DeskM.job; rw [he]
    rw [this, job_set hn hm]
  have hn0 : n ≠ 0 := by have := hn.1; omega
  refine ⟨hge, by rw [hc]; exact h.conf, by rw [hwl, hc]; exact h.wlen, fun m hm => ?_, fun m hm => ?_, hqd, fun m => ?_, hud, fun m => ?_, fun i hi ht => ?_, fun i hi ht => ?_, fun m hm h2' => ?_, fun i k hi hk ht h0 => ?_, fun m hm hu' => ?_⟩
  · have hm' := (hhas m).1 hm
    rw [hjob m hm.1]
    by_cases e1 : m = n
    · rw [if_pos e1]; exact ⟨by rw [hs]; exact (h.jobs n hn).1, hstate⟩
    · rw [if_neg e1]; exact h.jobs m hm'
  · have hm' := (hhas m).1 hm
    rw [hjob m hm.1]
    by_cases e1 : m = n
    · rw [if_pos e1]; exact hq0
    · rw [if_neg e1]; exact h.quiet m hm'
  · rw [hqm, hhas]
    by_cases e1 : m = n
    · subst e1
      rw [hjob m hn.1, if_pos rfl]
      constructor
      · rintro (⟨_, a, b⟩ | ⟨a, _⟩)
        · exact ⟨hn, a, b⟩
        · exact absurd rfl a
      · rintro ⟨_, a, b⟩; exact Or.inl ⟨rfl, a, b⟩
    · constructor
      · rintro (⟨a, _⟩ | ⟨_, a⟩)
        · exact absurd a e1
        · have hm := (h.quM m).1 a
          rw [hjob m hm.1.1, if_neg e1]; exact hm
      · rintro ⟨a, b⟩
        rw [hjob m a.1, if_neg e1] at b
        exact Or.inr ⟨e1, (h.quM m).2 ⟨a, b⟩⟩
  · rw [hum, hhas]
    by_cases e1 : m = n
    · subst e1
      rw [hjob m hn.1, if_pos rfl]
      constructor
      · rintro (⟨_, a, b⟩ | ⟨a, _⟩)
        · exact ⟨hn, a, b⟩
        · exact absurd rfl a
      · rintro ⟨_, a, b⟩; exact Or.inl ⟨rfl, a, b⟩
    · constructor
      · rintro (⟨a, _⟩ | ⟨_, a⟩)
        · exact absurd a e1
        · have hm := (h.urM m).1 a
          rw [hjob m hm.1.1, if_neg e1]; exact hm
      · rintro ⟨a, b⟩
        rw [hjob m a.1, if_neg e1] at b
        exact Or.inr ⟨e1, (h.urM m).2 ⟨a, b⟩⟩
  · rw [hc] at hi
    by_cases e1 : (d.wk i).ticket = n
    · rw [hw i hi, if_pos e1] at ht; exact absurd rfl ht
    · rw [hw i hi, if_neg e1] at ht ⊢
      obtain ⟨a1, a2, a3, a4, a5, a6⟩ := h.work i hi ht
      have hax : e.aX (d.wk i) = d.aX (d.wk i) := by
        unfold DeskM.aX
        rw [hjob _ a1.1, if_neg e1, hgt _ a3]
      refine ⟨(hhas _).2 a1, by rw [hjob _ a1.1, if_neg e1]; exact a2, by omega, by rw [hc]; exact a4, by rw [hax]; exact a5, by rw [hax]; exact a6⟩
  · rw [hc] at hi
    by_cases e1 : (d.wk i).ticket = n
    · rw [hw i hi, if_pos e1]
    · rw [hw i hi, if_neg e1] at ht ⊢
      exact h.idle0 i hi ht
  · have hm' := (hhas m).1 hm
    rw [hjob m hm.1] at h2'
    by_cases e1 : m = n
    · rw [if_pos e1] at h2'; exact absurd h2' h2
    · rw [if_neg e1] at h2'
      obtain ⟨i, hi, ht⟩ := h.runs m hm' h2'
      refine ⟨i, by rw [hc]; exact hi, ?_⟩
      rw [hw i hi, if_neg (by rw [ht]; exact e1)]; exact ht
  · rw [hc] at hi hk
    rw [hw i hi] at ht h0
    rw [hw k hk] at ht
    by_cases e1 : (d.wk i).ticket = n
    · rw [if_pos e1] at h0; exact absurd rfl h0
    · rw [if_neg e1] at ht h0
      by_cases e2 : (d.wk k).ticket = n
      · rw [if_pos e2] at ht; exact absurd ht h0
      · rw [if_neg e2] at ht; exact h.one i k hi hk ht h0
  · have hm' := (hhas m).1 hm
    rw [hjob m hm.1] at hu' ⊢
    rw [hc]
    by_cases e1 : m = n
    · rw [if_pos e1] at hu' ⊢; exact hur hu'
    · rw [if_neg e1] at hu' ⊢; exact h.hurt m hm' hu'
theorem dinv_start {d e : DeskM} (h : DInv d) {n i : Nat} (hn : d.Has n) (hn1 : (d.job n).state = 1) (hi : i < d.c.workers) (hi0 : (d.wk i).ticket = 0) {j : JobM} (hur : j.urgent = true → d.c.patience < j.failed) (hs : j.steps = (d.job n).steps) (hj : j.state = 2) (hjt : j.told = [])
    (hc : e.c = d.c) (he : e.jobs = (d.setJob n j).jobs) (hg : e.goods = d.goods) (hwl : e.workers.length = d.workers.length)
    (hqd : e.queue.Nodup) (hqm : ∀ m, m ∈ e.queue ↔ m ≠ n ∧ m ∈ d.queue) (hud : e.urgent.Nodup) (hum : ∀ m, m ∈ e.urgent ↔ m ≠ n ∧ m ∈ d.urgent)
    (hw : ∀ k, k < d.c.workers → e.wk k = if k = i then ⟨n, d.goods.length, 0⟩ else d.wk k) : DInv e := by
  have hlen : e.jobs.length = d.jobs.length := by rw [he, set_len]
  have hhas : ∀ m, e.Has m ↔ d.Has m := fun m => by unfold DeskM.Has; rw [hlen]
  have hjob : ∀ m, 1 ≤ m → e.job m = if m = n then j else d.job m := fun m hm => by
    have : e.job m = (d.setJob n j).job m := by unfold DeskM.job; rw [he]
    rw [this, job_set hn hm]
  have hn0 : n ≠ 0 := by have := hn.1; omega
  have hno : ¬ DeskM.Over (d.job n) := fun ho => by have := ho.1; omega
  have hge : GInv e := h.g.turn hn hno hs (fun ho => by have := ho.1; omega) hc hg he
  have hne : ∀ k, k < d.c.workers → (d.wk k).ticket ≠ n := fun k hk et => by
    have := (h.work k hk (by rw [et]; exact hn0)).2.1
    rw [et] at this; omega
  refine ⟨hge, by rw [hc]; exact h.conf, by rw [hwl, hc]; exact h.wlen, fun m hm => ?_, fun m hm => ?_, hqd, fun m => ?_, hud, fun m => ?_, fun k hk ht => ?_, fun k hk ht => ?_, fun m hm h2' => ?_, fun k k2 hk hk2 ht h0 => ?_, fun m hm hu' => ?_⟩
  · have hm' := (hhas m).1 hm
    rw [hjob m hm.1]
    by_cases e1 : m = n
    · rw [if_pos e1]; exact ⟨by rw [hs]; exact (h.jobs n hn).1, by omega, by omega⟩
    · rw [if_neg e1]; exact h.jobs m hm'
  · have hm' := (hhas m).1 hm
    rw [hjob m hm.1]
    by_cases e1 : m = n
    · rw [if_pos e1]; exact fun _ => hjt
    · rw [if_neg e1]; exact h.quiet m hm'
  · rw [hqm, hhas]
    constructor
    · rintro ⟨e1, a⟩
      have hm := (h.quM m).1 a
      rw [hjob m hm.1.1, if_neg e1]; exact hm
    · rintro ⟨a, b⟩
      rw [hjob m a.1] at b
      by_cases e1 : m = n
      · rw [if_pos e1] at b; have := b.1; omega
      · rw [if_neg e1] at b; exact ⟨e1, (h.quM m).2 ⟨a, b⟩⟩
  · rw [hum, hhas]
    constructor
    · rintro ⟨e1, a⟩
      have hm := (h.urM m).1 a
      rw [hjob m hm.1.1, if_neg e1]; exact hm
    · rintro ⟨a, b⟩
      rw [hjob m a.1] at b
      by_cases e1 : m = n
      · rw [if_pos e1] at b; have := b.1; omega
      · rw [if_neg e1] at b; exact ⟨e1, (h.urM m).2 ⟨a, b⟩⟩
  · rw [hc] at hk
    rw [hw k hk] at ht ⊢
    by_cases e1 : k = i
    · rw [if_pos e1]
      refine ⟨(hhas n).2 hn, by rw [hjob n hn.1, if_pos rfl]; exact hj, by rw [hg]; exact Nat.le_refl _, Nat.zero_le _, rfl, rfl⟩
    · rw [if_neg e1] at ht ⊢
      obtain ⟨a1, a2, a3, a4, a5, a6⟩ := h.work k hk ht
      have ne := hne k hk
      have hax : e.aX (d.wk k) = d.aX (d.wk k) := by
        unfold DeskM.aX
        rw [hjob _ a1.1, if_neg ne, hg]
      refine ⟨(hhas _).2 a1, by rw [hjob _ a1.1, if_neg ne]; exact a2, by rw [hg]; exact a3, by rw [hc]; exact a4, by rw [hax]; exact a5, by rw [hax]; exact a6⟩
  · rw [hc] at hk
    rw [hw k hk] at ht ⊢
    by_cases e1 : k = i
    · rw [if_pos e1] at ht; exact absurd ht hn0
    · rw [if_neg e1] at ht ⊢; exact h.idle0 k hk ht
  · have hm' := (hhas m).1 hm
    rw [hjob m hm.1] at h2'
    by_cases e1 : m = n
    · exact ⟨i, by rw [hc]; exact hi, by rw [hw i hi, if_pos rfl]; exact e1.symm⟩
    · rw [if_neg e1] at h2'
      obtain ⟨k, hk, ht⟩ := h.runs m hm' h2'
      refine ⟨k, by rw [hc]; exact hk, ?_⟩
      have : k ≠ i := fun e2 => by rw [e2, hi0] at ht; have := hm.1; omega
      rw [hw k hk, if_neg this]; exact ht
  · rw [hc] at hk hk2
    rw [hw k hk] at ht h0
    rw [hw k2 hk2] at ht
    by_cases e1 : k = i
    · by_cases e2 : k2 = i
      · rw [e1, e2]
      · rw [if_pos e1, if_neg e2] at ht
        exact absurd ht.symm (hne k2 hk2)
    · by_cases e2 : k2 = i
      · rw [if_neg e1, if_pos e2] at ht
        exact absurd ht (hne k hk)
      · rw [if_neg e1] at ht h0
        rw [if_neg e2] at ht
        exact h.one k k2 hk hk2 ht h0
  · have hm' := (hhas m).1 hm
    rw [hjob m hm.1] at hu' ⊢
    rw [hc]
    by_cases e1 : m = n
    · rw [if_pos e1] at hu' ⊢; exact hur hu'
    · rw [if_neg e1] at hu' ⊢; exact h.hurt m hm' hu'
theorem wk_set {l : List AttM} {i : Nat} (h : i < l.length) (a : AttM) (k : Nat) : (l.set i a).getD k att0 = if k = i then a else l.getD k att0 := by
  simp only [List.getD]
  by_cases e : k = i
  · subst e; simp [h]
  · rw [if_neg e, List.getElem?_set_ne (fun h => e h.symm)]
theorem left_mem {l : List Nat} {n m : Nat} : m ∈ DeskM.left l n ↔ m ≠ n ∧ m ∈ l := by simp [DeskM.left, and_comm]
theorem left_nodup {l : List Nat} (h : l.Nodup) (n : Nat) : (DeskM.left l n).Nodup := h.filter _
def PutsIn (p : Int → Option Int) : Prop := ∀ k v, p k = some v → 0 ≤ k ∧ k ≤ 15 ∧ -1 ≤ v ∧ v ≤ 9999
theorem stp_in {s : St} {i N : Nat} (hs : stB s i N = true) {m : Int → Int} {x : Mo} (hok : MoOk N x) (h : PutsIn x.puts) : PutsIn (stp s m x).puts := by
  have hr := reg_le hok
  have hput : ∀ (y : Mo) (k v : Int), y.puts = x.puts → 0 ≤ k → k ≤ 15 → -1 ≤ v → v ≤ 9999 → PutsIn (putAt y k v).puts := fun y k v hy h0 h1 h2 h3 j u hj => by
    simp only [putAt] at hj
    by_cases e : k = j
    · rw [if_pos e] at hj; injection hj with hj; subst hj; subst e; exact ⟨h0, h1, h2, h3⟩
    · rw [if_neg e, hy] at hj; exact h j u hj
  have hite : ∀ {p : Prop} [Decidable p] {a b : Mo}, (p → PutsIn a.puts) → (¬ p → PutsIn b.puts) → PutsIn (if p then a else b).puts := fun {p} _ {a b} ha hb => by
    by_cases e : p
    · rw [if_pos e]; exact ha e
    · rw [if_neg e]; exact hb e
  have hbec : ∀ (y : Mo) (a v : Int), y.puts = x.puts → PutsIn (bec y a v).puts := fun y a v hy => by unfold bec; split <;> (show PutsIn y.puts; rw [hy]; exact h)
  unfold stp
  simp only
  refine hite (fun _ => h) (fun _ => hite (fun _ => h) (fun _ => hite (fun e => ?_) (fun _ => hite (fun e => ?_) (fun _ => hite (fun _ => hbec _ _ _ rfl) (fun _ => hite (fun _ => hbec _ _ _ rfl) (fun _ => hite (fun _ => hbec _ _ _ rfl) (fun _ => hite (fun _ => hbec _ _ _ rfl) (fun _ => hite (fun _ => hite (fun _ => h) (fun _ => h)) (fun _ => hite (fun _ => hite (fun _ => h) (fun _ => h)) (fun _ => hite (fun _ => h) (fun _ => hite (fun _ => h) (fun _ => h))))))))))))
  · have hb : 0 ≤ s.a ∧ s.a ≤ 15 := by simp [stB, stepB, e, regB, keyB] at hs; omega
    have h1 := hr s.b
    exact hput _ _ _ rfl hb.1 hb.2 (by show -1 ≤ reg x s.b; omega) h1.2
  · have hb : 0 ≤ s.a ∧ s.a ≤ 15 := by simp [stB, stepB, e, keyB] at hs; omega
    exact hput _ _ _ rfl hb.1 hb.2 (by omega) (by omega)
theorem play_in {l : List St} (hj : jobB l = true) {m : Int → Int} (hm : ∀ k, m k ≤ 9999) : ∀ (n : Nat) (x : Mo), MoOk l.length x → PutsIn x.puts → PutsIn (play l m n x).puts
  | 0, _, _, h => h
  | n + 1, x, hok, h => by
    rw [play]
    by_cases hc : x.fin = 0 ∧ x.pc < l.length
    · rw [if_pos hc]
      exact play_in hj hm n _ (stp_ok hok hc.2 hm (jobP_at hj _ hc.2)) (stp_in (jobP_at hj _ hc.2) hok h)
    · rw [if_neg hc]; exact h
theorem GInv.found {d e : DeskM} (h : GInv d) {n : Nat} (hn : d.Has n) (hno : ¬ DeskM.Over (d.job n)) (hjob : jobB (d.job n).steps = true) {t : GoodM} (ht : t.ticket = n) (hb : t.beg ≤ d.goods.length) {x : Mo} (hx : x = play (d.job n).steps (mapF (d.goods.take t.beg)) d.c.fuel mo0)
    (hr : t.read = x.read) (hp : t.puts = if endState (d.job n).steps x = 3 then x.puts else fun _ => none) (hk : PutsIn t.puts) (hnp : NoPartner d.goods t) (hc : e.c = d.c) (hg : e.goods = d.goods ++ [t]) {j : JobM} (hs : j.steps = (d.job n).steps)
    (hst : j.state = endState (d.job n).steps x) (hto : j.told = x.told) (he : e.jobs = (d.setJob n j).jobs) : GInv e := by
  have hlen : e.jobs.length = d.jobs.length := by rw [he, set_len]
  have hhas : ∀ m, e.Has m ↔ d.Has m := fun m => by unfold DeskM.Has; rw [hlen]
  have hej : ∀ m, 1 ≤ m → e.job m = if m = n then j else d.job m := fun m hm => by
    have : e.job m = (d.setJob n j).job m := by unfold DeskM.job; rw [he]
    rw [this, job_set hn hm]
  have hover : ∀ i, i < d.goods.length → DeskM.Over (d.job (gAt d.goods i).ticket) := fun i hi => by
    obtain ⟨_, h2, _⟩ := h.gjob i hi
    unfold DeskM.Over
    rw [h2]
    have hf : (d.gX i).fin = 0 ∨ (d.gX i).fin = 4 ∨ (d.gX i).fin = 5 := play_fin (d.gL i) (mapF (d.goods.take (gAt d.goods i).beg)) d.c.fuel mo0 (Or.inl rfl)
    unfold endState
    split
    · split <;> omega
    · omega
  have hne : ∀ i, i < d.goods.length → (gAt d.goods i).ticket ≠ n := fun i hi et => hno (by rw [← et]; exact hover i hi)
  have hgl : e.goods.length = d.goods.length + 1 := by rw [hg]; simp
  have hold : ∀ i, i < d.goods.length → gAt e.goods i = gAt d.goods i := fun i hi => by rw [hg, gAt_old hi]
  have hnewg : gAt e.goods d.goods.length = t := by rw [hg, gAt_new]
  have hL : ∀ i, i < d.goods.length → e.gL i = d.gL i := fun i hi => by
    unfold DeskM.gL
    rw [hold i hi, hej _ (h.gjob i hi).1.1, if_neg (hne i hi)]
  have hLn : e.gL d.goods.length = (d.job n).steps := by
    unfold DeskM.gL
    rw [hnewg, ht, hej n hn.1, if_pos rfl, hs]
  have hX : ∀ i, i < d.goods.length → e.gX i = d.gX i := fun i hi => by
    have hbi : (gAt d.goods i).beg ≤ i := h.goods.ord.begle i hi
    unfold DeskM.gX
    rw [hL i hi, hold i hi, hc, hg, List.take_append_of_le_length (by omega)]
  have hXn : e.gX d.goods.length = x := by
    unfold DeskM.gX
    rw [hLn, hnewg, hc, hg, List.take_append_of_le_length hb, ← hx]
  have hcase : ∀ i, i < e.goods.length → i < d.goods.length ∨ i = d.goods.length := fun i hi => by omega
  refine ⟨?_, fun i hi => ?_, fun i k hi hk2 hik => ?_, fun m hm ho => ?_⟩
  · have := goods_snoc h.goods hjob hb hx hr hp hk hnp
    rw [hc, hg]
    refine this.congr (fun i hi => ?_) (fun i hi => ?_)
    · rcases hcase i (by rw [hg]; exact hi) with e1 | e1
      · rw [if_neg (by omega)]; exact hL i e1
      · rw [if_pos e1, e1]; exact hLn
    · rcases hcase i (by rw [hg]; exact hi) with e1 | e1
      · rw [if_neg (by omega)]; exact hX i e1
      · rw [if_pos e1, e1]; exact hXn
  · rcases hcase i hi with e1 | e1
    · obtain ⟨a1, a2, a3⟩ := h.gjob i e1
      rw [hold i e1, hL i e1, hX i e1, hej _ a1.1, if_neg (hne i e1)]
      exact ⟨(hhas _).2 a1, a2, a3⟩
    · subst e1
      rw [hnewg, hLn, hXn, ht, hej n hn.1, if_pos rfl]
      exact ⟨(hhas n).2 hn, hst, hto⟩
  · rcases hcase i hi with e1 | e1
    · rcases hcase k hk2 with e2 | e2
      · rw [hold i e1, hold k e2] at hik; exact h.gone i k e1 e2 hik
      · rw [e2, hold i e1, hnewg, ht] at hik; exact absurd hik (hne i e1)
    · rcases hcase k hk2 with e2 | e2
      · rw [e1, hold k e2, hnewg, ht] at hik; exact absurd hik.symm (hne k e2)
      · omega
  · by_cases e1 : m = n
    · exact ⟨d.goods.length, by omega, by rw [hnewg, ht, e1]⟩
    · rw [hej m hm.1, if_neg e1] at ho
      obtain ⟨i, hi, hit⟩ := h.gall m ((hhas m).1 hm) ho
      exact ⟨i, by omega, by rw [hold i hi]; exact hit⟩
theorem DInv.submit {d : DeskM} (h : DInv d) (l : List St) : DInv (d.submit l).1 := by
  have hg := h.g.submit l
  unfold DeskM.submit at *
  split
  · exact h
  · rename_i hjb
    split
    · exact h
    · rename_i hq
      rw [if_neg hjb, if_neg hq] at hg
      obtain ⟨e, he⟩ : ∃ e : DeskM, e = { d with jobs := d.jobs ++ [⟨l, 1, [], 0, 0, false⟩], queue := d.queue ++ [d.jobs.length + 1] } := ⟨_, rfl⟩
      simp only at hg ⊢
      rw [← he] at hg ⊢
      have hlen : e.jobs.length = d.jobs.length + 1 := by rw [he]; simp
      have hold : ∀ n, 1 ≤ n → n ≤ d.jobs.length → e.job n = d.job n := fun n h1 h2 => by
        rw [he]; simp only [DeskM.job, List.getD]; rw [List.getElem?_append_left (by omega)]
      have hnew : e.job (d.jobs.length + 1) = ⟨l, 1, [], 0, 0, false⟩ := by rw [he]; simp [DeskM.job, List.getD]
      have hhas : ∀ m, e.Has m → d.Has m ∨ m = d.jobs.length + 1 := fun m hm => by have h1 := hm.1; have h2 := hm.2; unfold DeskM.Has; omega
      have hup : ∀ m, d.Has m → e.Has m := fun m hm => ⟨hm.1, by have := hm.2; omega⟩
      have hnotq : ∀ m, m ∈ d.queue → m ≠ d.jobs.length + 1 := fun m hm => by have := ((h.quM m).1 hm).1.2; omega
      have hwk : ∀ i, e.wk i = d.wk i := fun i => by rw [he]; rfl
      have hc : e.c = d.c := by rw [he]
      have hgd : e.goods = d.goods := by rw [he]
      refine ⟨hg, by rw [hc]; exact h.conf, by rw [he]; exact h.wlen, fun m hm => ?_, fun m hm => ?_, ?_, fun m => ?_, by rw [he]; exact h.urD, fun m => ?_, fun i hi ht => ?_, fun i hi ht => ?_, fun m hm h2 => ?_, fun i k hi hk ht h0 => ?_, fun m hm hu => ?_⟩
      · rcases hhas m hm with hm' | rfl
        · rw [hold m hm'.1 hm'.2]; exact h.jobs m hm'
        · rw [hnew]; exact ⟨by simpa using hjb, by simp, by simp⟩
      · rcases hhas m hm with hm' | rfl
        · rw [hold m hm'.1 hm'.2]; exact h.quiet m hm'
        · rw [hnew]; exact fun _ => rfl
      · rw [he]
        exact List.nodup_append.2 ⟨h.quD, by simp, fun a ha b hb => by simp at hb; subst hb; exact hnotq a ha⟩
      · have hq' : m ∈ e.queue ↔ m ∈ d.queue ∨ m = d.jobs.length + 1 := by rw [he]; simp
        rw [hq']
        constructor
        · rintro (a | rfl)
          · have := (h.quM m).1 a; rw [hold m this.1.1 this.1.2]; exact ⟨hup m this.1, this.2⟩
          · exact ⟨⟨by omega, by omega⟩, by rw [hnew], by rw [hnew]⟩
        · rintro ⟨a, b⟩
          rcases hhas m a with hm' | rfl
          · rw [hold m hm'.1 hm'.2] at b; exact Or.inl ((h.quM m).2 ⟨hm', b⟩)
          · exact Or.inr rfl
      · have hu' : e.urgent = d.urgent := by rw [he]
        rw [hu']
        constructor
        · intro a
          have := (h.urM m).1 a; rw [hold m this.1.1 this.1.2]; exact ⟨hup m this.1, this.2⟩
        · rintro ⟨a, b⟩
          rcases hhas m a with hm' | rfl
          · rw [hold m hm'.1 hm'.2] at b; exact (h.urM m).2 ⟨hm', b⟩
          · rw [hnew] at b; exact absurd b.2 (by simp)
      · rw [hwk] at ht ⊢
        rw [hc] at hi
        obtain ⟨a1, a2, a3, a4, a5, a6⟩ := h.work i hi ht
        have hax : e.aX (d.wk i) = d.aX (d.wk i) := by unfold DeskM.aX; rw [hold _ a1.1 a1.2, hgd]
        exact ⟨hup _ a1, by rw [hold _ a1.1 a1.2]; exact a2, by rw [hgd]; exact a3, by rw [hc]; exact a4, by rw [hax]; exact a5, by rw [hax]; exact a6⟩
      · rw [hwk] at ht ⊢; exact h.idle0 i (by rw [hc] at hi; exact hi) ht
      · rcases hhas m hm with hm' | rfl
        · rw [hold m hm'.1 hm'.2] at h2
          obtain ⟨i, hi, ht⟩ := h.runs m hm' h2
          exact ⟨i, by rw [hc]; exact hi, by rw [hwk]; exact ht⟩
        · rw [hnew] at h2; exact absurd h2 (by simp)
      · rw [hwk] at ht h0; rw [hwk] at ht
        exact h.one i k (by rw [hc] at hi; exact hi) (by rw [hc] at hk; exact hk) ht h0
      · rcases hhas m hm with hm' | rfl
        · rw [hold m hm'.1 hm'.2] at hu ⊢; rw [hc]; exact h.hurt m hm' hu
        · rw [hnew] at hu; exact absurd hu (by simp)
theorem DInv.cancel {d : DeskM} (h : DInv d) (n : Int) : DInv (d.cancel n).1 := by
  unfold DeskM.cancel
  split
  · exact h
  · rename_i ht
    split
    · exact h
    · rename_i hs
      have hn : d.Has n.toNat := by simp [DeskM.ticketB] at ht; unfold DeskM.Has; omega
      have hno : ¬ DeskM.Over (d.job n.toNat) := fun ho => by have := ho.1; omega
      have hj6 : ¬ DeskM.Over { d.job n.toNat with state := 6 } := fun ho => by have := ho.2; simp at this
      refine dinv_stop h hn (j := { d.job n.toNat with state := 6 }) (h.hurt _ hn) rfl ⟨by simp, by simp⟩ (by simp) (fun _ => h.quiet _ hn (Or.inl (by omega))) rfl rfl (h.g.turn hn hno (j := { d.job n.toNat with state := 6 }) rfl hj6 rfl rfl rfl) (Nat.le_refl _) (fun _ _ => rfl) (by simp) (left_nodup h.quD _) (fun m => ?_) (left_nodup h.urD _) (fun m => ?_) (fun k hk => ?_)
      · show m ∈ DeskM.left d.queue n.toNat ↔ _
        rw [left_mem]; simp
      · show m ∈ DeskM.left d.urgent n.toNat ↔ _
        rw [left_mem]; simp
      · simp only [DeskM.wk, List.getD]
        have hk' : k < d.workers.length := by rw [h.wlen]; exact hk
        simp [hk']
theorem wk_stop {d : DeskM} (h : DInv d) {i : Nat} (hi : i < d.c.workers) {n : Nat} (hn : (d.wk i).ticket = n) (hn0 : n ≠ 0) (k : Nat) (hk : k < d.c.workers) : (d.workers.set i att0).getD k att0 = if (d.wk k).ticket = n then att0 else d.wk k := by
  rw [wk_set (by rw [h.wlen]; exact hi)]
  by_cases e : k = i
  · rw [if_pos e, e, if_pos hn]
  · rw [if_neg e]
    by_cases e2 : (d.wk k).ticket = n
    · exact absurd (h.one k i hk hi (by rw [e2, hn]) (by rw [e2]; exact hn0)) e
    · rw [if_neg e2]; rfl
theorem DInv.kill {d : DeskM} (h : DInv d) (i : Int) : DInv (d.kill i).1 := by
  unfold DeskM.kill
  split
  · exact h
  · rename_i hw
    simp only
    split
    · exact h
    · rename_i hn0
      have hi : i.toNat < d.c.workers := by simp [DeskM.workerB] at hw; omega
      obtain ⟨hn, h2, _⟩ := h.work i.toNat hi hn0
      obtain ⟨n, hnn⟩ : ∃ n, n = (d.wk i.toNat).ticket := ⟨_, rfl⟩
      have hnn' : (d.workers.getD i.toNat att0).ticket = n := hnn.symm
      rw [hnn'] at hn0 ⊢
      rw [← hnn] at hn h2
      have hno : ¬ DeskM.Over (d.job n) := fun ho => by have := ho.1; omega
      have hj1 : ¬ DeskM.Over { d.job n with state := 1 } := fun ho => by have := ho.1; simp at this
      have hnq : n ∉ d.queue := fun hq => by have := ((h.quM n).1 hq).2.1; omega
      have hnu : n ∉ d.urgent := fun hq => by have := ((h.urM n).1 hq).2.1; omega
      by_cases hu : (d.job n).urgent = true
      · rw [if_pos hu]
        refine dinv_stop h hn (j := { d.job n with state := 1 }) (h.hurt _ hn) rfl ⟨by simp, by simp⟩ (by simp) (fun _ => h.quiet _ hn (Or.inl (by omega))) rfl rfl (h.g.turn hn hno (j := { d.job n with state := 1 }) rfl hj1 rfl rfl rfl) (Nat.le_refl _) (fun _ _ => rfl) (by simp) ?_ (fun m => ?_) ?_ (fun m => ?_) (fun k hk => wk_stop h hi hnn.symm hn0 k hk)
        · exact h.quD
        · show m ∈ d.queue ↔ _
          by_cases e : m = n
          · subst e; simp [hu, hnq]
          · simp [e]
        · exact List.nodup_cons.2 ⟨hnu, h.urD⟩
        · show m ∈ n :: d.urgent ↔ _
          rw [List.mem_cons]
          by_cases e : m = n
          · subst e; simp [hu]
          · simp [e]
      · rw [if_neg hu]
        have hu : (d.job n).urgent = false := by simpa using hu
        refine dinv_stop h hn (j := { d.job n with state := 1 }) (h.hurt _ hn) rfl ⟨by simp, by simp⟩ (by simp) (fun _ => h.quiet _ hn (Or.inl (by omega))) rfl rfl (h.g.turn hn hno (j := { d.job n with state := 1 }) rfl hj1 rfl rfl rfl) (Nat.le_refl _) (fun _ _ => rfl) (by simp) ?_ (fun m => ?_) ?_ (fun m => ?_) (fun k hk => wk_stop h hi hnn.symm hn0 k hk)
        · exact List.nodup_cons.2 ⟨hnq, h.quD⟩
        · show m ∈ n :: d.queue ↔ _
          rw [List.mem_cons]
          by_cases e : m = n
          · subst e; simp [hu]
          · simp [e]
        · exact h.urD
        · show m ∈ d.urgent ↔ _
          by_cases e : m = n
          · subst e; simp [hu, hnu]
          · simp [e]
end Go.Proofs.YtlbmcdoldnajoaaGreat
