import Derived.Test.YtlbmcdoldnajoaaGreatDeskU
namespace Go.Proofs.YtlbmcdoldnajoaaGreat
theorem job_mem {d : DeskM} {n : Nat} (hn : d.Has n) : d.job n ∈ d.jobs := by
  obtain ⟨h1, h2⟩ := hn
  have hlt : n - 1 < d.jobs.length := by omega
  have : d.job n = d.jobs[n - 1] := by simp [DeskM.job, List.getD, hlt]
  rw [this]; exact List.getElem_mem _
theorem idle_no {d : DeskM} {n : Nat} (hn : d.Has n) (h2 : (d.job n).state = 2) : d.idle = false := by
  unfold DeskM.idle
  rw [List.all_eq_false]
  exact ⟨d.job n, job_mem hn, by simp [h2]⟩
theorem hurry_yes {d : DeskM} {n : Nat} (hn : d.Has n) (h2 : (d.job n).state ≤ 2) (hu : (d.job n).urgent = true) : d.hurry = true := by
  unfold DeskM.hurry
  rw [List.any_eq_true]
  exact ⟨d.job n, job_mem hn, by simp [h2, hu]⟩
theorem next_case {d : DeskM} (h : d.nextJob ≠ 0) : (d.hurry = true ∧ d.idle = true ∧ d.nextJob ∈ d.urgent) ∨ (d.hurry = false ∧ d.nextJob ∈ d.queue) := by
  unfold DeskM.nextJob at *
  split at h
  · rename_i e
    rw [if_pos e]
    rw [Bool.and_eq_true] at e
    exact Or.inl ⟨e.1, e.2, head_mem rfl h⟩
  · rename_i e
    rw [if_neg e]
    split at h
    · rename_i e2
      rw [if_pos e2]
      exact Or.inr ⟨e2, head_mem rfl h⟩
    · exact absurd rfl h
theorem UInv.taken {d : DeskM} (h : DInv d) (u : UInv d) {i : Nat} (hi : i < d.c.workers) : UInv (d.taken i).1 := by
  unfold DeskM.taken
  simp only
  split
  · exact u
  · rename_i hn0
    have hcase := next_case hn0
    obtain ⟨n, hnn⟩ : ∃ n, n = d.nextJob := ⟨_, rfl⟩
    rw [← hnn] at hcase hn0 ⊢
    have hn : d.Has n := by
      rcases hcase with ⟨_, _, hm⟩ | ⟨_, hm⟩
      · exact ((h.urM n).1 hm).1
      · exact ((h.quM n).1 hm).1
    obtain ⟨e, he⟩ : ∃ e : DeskM, e = { d.setJob n { d.job n with state := 2, tries := (d.job n).tries + 1 } with queue := DeskM.left d.queue n, urgent := DeskM.left d.urgent n, workers := d.workers.set i ⟨n, d.goods.length, 0⟩ } := ⟨_, rfl⟩
    rw [← he]
    obtain ⟨k1, k2⟩ := uset hn (j := { d.job n with state := 2, tries := (d.job n).tries + 1 }) rfl rfl (e := e) (by rw [he])
    have hwk : ∀ k, e.wk k = if k = i then ⟨n, d.goods.length, 0⟩ else d.wk k := fun k => by rw [he]; exact wk_set (by rw [h.wlen]; exact hi) _ k
    have hc : e.c = d.c := by rw [he]; rfl
    have hg : e.goods = d.goods := by rw [he]; rfl
    refine ⟨fun k hk h0 hu => ?_, fun m hm => ?_, fun m hm hu => ?_⟩
    · rw [hc] at hk
      by_cases e1 : k = i
      · subst e1
        rw [hwk, if_pos rfl] at hu ⊢
        have hun : (d.job n).urgent = true := by rw [(k1 n hn).1] at hu; exact hu
        refine ⟨by rw [hg], fun k2' hk2 hne => ?_⟩
        rw [hc] at hk2
        rw [hwk, if_neg hne]
        rcases hcase with ⟨_, hid, _⟩ | ⟨_, hm⟩
        · refine Classical.byContradiction fun hk0 => ?_
          have hw := h.work k2' hk2 hk0
          rw [idle_no hw.1 hw.2.1] at hid
          cases hid
        · have := ((h.quM n).1 hm).2.2
          rw [hun] at this; cases this
      · rw [hwk, if_neg e1] at h0 hu
        have hw := h.work k hk h0
        rw [(k1 _ hw.1).1] at hu
        have hh := hurry_yes hw.1 (by have := hw.2.1; omega) hu
        rcases hcase with ⟨_, hid, _⟩ | ⟨hf, _⟩
        · rw [idle_no hw.1 hw.2.1] at hid; cases hid
        · rw [hh] at hf; cases hf
    · rw [hc, (k1 m (k2 m hm)).2]; exact u.few m (k2 m hm)
    · rw [(k1 m (k2 m hm)).1] at hu
      rw [hc, (k1 m (k2 m hm)).2]; exact u.calm m (k2 m hm) hu
theorem UInv.only {d : DeskM} (u : UInv d) {i : Nat} (hi : i < d.c.workers) (hi0 : (d.wk i).ticket ≠ 0) {k : Nat} (hk : k < d.c.workers) (hki : k ≠ i) (hk0 : (d.wk k).ticket ≠ 0) : (d.job (d.wk k).ticket).urgent = false := by
  cases e : (d.job (d.wk k).ticket).urgent
  · rfl
  · exact absurd ((u.alone k hk hk0 e).2 i hi (fun h => hki h.symm)) hi0
theorem UInv.looked {d : DeskM} (h : DInv d) (u : UInv d) {i : Nat} (hi : i < d.c.workers) (hi0 : (d.wk i).ticket ≠ 0) (x : Mo) (state : Int) : UInv (d.looked i x state).1 := by
  obtain ⟨hn, _, _⟩ := h.work i hi hi0
  have hwi : d.workers.getD i att0 = d.wk i := rfl
  have honly := fun k => u.only hi hi0 (k := k)
  have hone := h.one
  obtain ⟨n, hnn⟩ : ∃ n, n = (d.wk i).ticket := ⟨_, rfl⟩
  unfold DeskM.looked
  simp only
  rw [hwi, ← hnn]
  rw [← hnn] at hn
  have hn0 : n ≠ 0 := by rw [hnn]; exact hi0
  have hjj : DeskM.job { d with workers := d.workers.set i att0 } n = d.job n := rfl
  obtain ⟨t, ht⟩ : ∃ t : GoodM, t = ⟨n, (d.wk i).beg, x.read, if state = 3 then x.puts else fun _ => none⟩ := ⟨_, rfl⟩
  rw [← ht]
  -- all that the three ways share
  have hall : ∀ (e : DeskM) (j : JobM), e.c = d.c → e.jobs = (d.setJob n j).jobs → (∀ k, k < d.c.workers → e.wk k = if k = i then att0 else d.wk k) → (j.failed ≤ d.c.patience + 1) → (j.urgent = false → j.failed ≤ d.c.patience) → UInv e := fun e j hc he hw hf hcalm => by
    have hlen : e.jobs.length = d.jobs.length := by rw [he, set_len]
    have hhas : ∀ m, e.Has m → d.Has m := fun m hm => ⟨hm.1, by have := hm.2; omega⟩
    have hjob : ∀ m, 1 ≤ m → e.job m = if m = n then j else d.job m := fun m hm => by
      have : e.job m = (d.setJob n j).job m := by unfold DeskM.job; rw [he]
      rw [this, job_set hn hm]
    refine ⟨fun k hk h0 hu => ?_, fun m hm => ?_, fun m hm hu => ?_⟩
    · rw [hc] at hk
      rw [hw k hk] at h0 hu
      by_cases e1 : k = i
      · rw [if_pos e1] at h0; exact absurd rfl h0
      · rw [if_neg e1] at h0 hu
        have hw' := (h.work k hk h0).1
        have hne : (d.wk k).ticket ≠ n := fun et => e1 (hone k i hk hi (by rw [et, hnn]) h0)
        rw [hjob _ hw'.1, if_neg hne, honly k hk e1 h0] at hu
        cases hu
    · rw [hc, hjob m hm.1]
      by_cases e1 : m = n
      · rw [if_pos e1]; exact hf
      · rw [if_neg e1]; exact u.few m (hhas m hm)
    · rw [hjob m hm.1] at hu ⊢
      rw [hc]
      by_cases e1 : m = n
      · rw [if_pos e1] at hu ⊢; exact hcalm hu
      · rw [if_neg e1] at hu ⊢; exact u.calm m (hhas m hm) hu
  have hws : ∀ k, k < d.c.workers → (d.workers.set i att0).getD k att0 = if k = i then att0 else d.wk k := fun k _ => wk_set (by rw [h.wlen]; exact hi) att0 k
  split
  · rename_i hp
    have hu : (d.job n).urgent = false := by
      cases e : (d.job n).urgent
      · rfl
      · have hb := (u.alone i hi hi0 (by rw [← hnn]; exact e)).1
        exact absurd (no_later (d := { d with workers := d.workers.set i att0 }) (t := t) (by rw [ht]; exact hb)) hp
    have hcm := u.calm n hn hu
    unfold DeskM.failedJ
    simp only
    rw [hjj]
    split
    · exact hall _ { d.job n with state := 1, failed := (d.job n).failed + 1, urgent := true } rfl rfl hws (by show (d.job n).failed + 1 ≤ _; omega) (fun e => by cases e)
    · rename_i hpat
      exact hall _ { d.job n with state := 1, failed := (d.job n).failed + 1 } rfl rfl hws (by show (d.job n).failed + 1 ≤ _; omega) (fun _ => by show (d.job n).failed + 1 ≤ _; exact Nat.le_of_not_lt hpat)
  · rw [hjj]
    exact hall _ { d.job n with state := state, told := x.told } rfl rfl hws (u.few n hn) (fun e => u.calm n hn e)
theorem UInv.goes {d : DeskM} (h : DInv d) (u : UInv d) {i : Nat} (hi : i < d.c.workers) (hi0 : (d.wk i).ticket ≠ 0) : UInv (d.goes i).1 := by
  unfold DeskM.goes
  simp only
  split
  · exact u.looked h hi hi0 _ _
  · split
    · exact u.looked h hi hi0 _ _
    · split
      · exact u.looked h hi hi0 _ _
      · have hwk : ∀ k, (DeskM.wk { d with workers := d.workers.set i { d.workers.getD i att0 with done := (d.workers.getD i att0).done + 1 } } k).ticket = (d.wk k).ticket ∧ (DeskM.wk { d with workers := d.workers.set i { d.workers.getD i att0 with done := (d.workers.getD i att0).done + 1 } } k).beg = (d.wk k).beg := fun k => by
          have := wk_set (l := d.workers) (i := i) (by rw [h.wlen]; exact hi) { d.workers.getD i att0 with done := (d.workers.getD i att0).done + 1 } k
          have e : DeskM.wk { d with workers := d.workers.set i { d.workers.getD i att0 with done := (d.workers.getD i att0).done + 1 } } k = _ := this
          rw [e]
          by_cases e1 : k = i
          · rw [if_pos e1, e1]; exact ⟨rfl, rfl⟩
          · rw [if_neg e1]; exact ⟨rfl, rfl⟩
        refine ⟨fun k hk h0 hu => ?_, u.few, u.calm⟩
        rw [(hwk k).1] at h0 hu
        rw [(hwk k).2]
        obtain ⟨a1, a2⟩ := u.alone k hk h0 hu
        exact ⟨a1, fun k2 hk2 hne => by rw [(hwk k2).1]; exact a2 k2 hk2 hne⟩
theorem UInv.pick {d : DeskM} (h : DInv d) (u : UInv d) (i : Int) : UInv (d.pick i).1 := by
  unfold DeskM.pick
  split
  · exact u
  · rename_i hw
    have hi : i.toNat < d.c.workers := by simp [DeskM.workerB] at hw; omega
    split
    · exact u.taken h hi
    · rename_i h0; exact u.goes h hi h0
theorem leastK_lt (k : Nat) : ∀ (l : List WkM) (n : Nat), k < leastK l n ↔ k < n ∧ ∀ a ∈ l, a.ticket ≠ 0 → k < a.beg
  | [], n => by simp [leastK]
  | a :: r, n => by
    rw [leastK, leastK_lt k r]
    simp only [List.mem_cons, forall_eq_or_imp]
    by_cases h : a.ticket ≠ 0 ∧ a.beg < n
    · rw [if_pos h]
      constructor
      · rintro ⟨h1, h2⟩; exact ⟨by omega, fun _ => h1, h2⟩
      · rintro ⟨h1, h2, h3⟩; exact ⟨h2 h.1, h3⟩
    · rw [if_neg h]
      constructor
      · rintro ⟨h1, h2⟩
        refine ⟨h1, fun ht => ?_, h2⟩
        by_cases hb : a.beg < n
        · exact absurd ⟨ht, hb⟩ h
        · omega
      · rintro ⟨h1, _, h3⟩; exact ⟨h1, h3⟩
theorem known_eq (gs : List GoodM) (n : Nat) : knownOf gs n = (List.range' n (gs.length - n)).map (knOf gs) := by
  unfold knownOf
  congr 1
  have e : List.range gs.length = List.range' 0 (min n gs.length) ++ List.range' (min n gs.length) (gs.length - min n gs.length) := by
    have h := List.range'_append_1 (s := 0) (m := min n gs.length) (n := gs.length - min n gs.length)
    rw [Nat.zero_add, show min n gs.length + (gs.length - min n gs.length) = gs.length by omega] at h
    rw [List.range_eq_range', h]
  rw [e, List.filter_append, List.filter_eq_nil_iff.2 (fun a ha => by rw [List.mem_range'_1] at ha; simp; omega), List.filter_eq_self.2 (fun a ha => by rw [List.mem_range'_1] at ha; simp; omega), List.nil_append]
  by_cases h : n ≤ gs.length
  · rw [Nat.min_eq_left h]
  · rw [Nat.min_eq_right (by omega), show gs.length - gs.length = 0 by omega, show gs.length - n = 0 by omega]; rfl
theorem known_mem {gs : List GoodM} {n : Nat} {u : KnM} : u ∈ knownOf gs n ↔ ∃ k, n ≤ k ∧ k < gs.length ∧ u = knOf gs k := by
  rw [known_eq, List.mem_map]
  constructor
  · rintro ⟨k, hk, rfl⟩; rw [List.mem_range'_1] at hk; exact ⟨k, by omega, by omega, rfl⟩
  · rintro ⟨k, h1, h2, rfl⟩; exact ⟨k, by rw [List.mem_range'_1]; omega, rfl⟩
theorem known_len (gs : List GoodM) (n : Nat) : (knownOf gs n).length = gs.length - n := by rw [known_eq]; simp
theorem forget_known {gs : List GoodM} {m n : Nat} (h : m ≤ n) : forgetK n (knownOf gs m) = knownOf gs n := by
  unfold forgetK
  have hf : (knownOf gs m).filter (fun u => decide (n < u.number)) = knownOf gs n := by
    unfold knownOf
    rw [List.filter_map, List.filter_filter]
    congr 1
    refine List.filter_congr (fun k _ => ?_)
    show (decide (n < k + 1) && decide (m < k + 1)) = decide (n < k + 1)
    by_cases hk : n < k + 1
    · rw [decide_eq_true (show m < k + 1 by omega), Bool.and_true]
    · rw [decide_eq_false hk, Bool.false_and]
  split
  · rename_i hc
    rw [← hf]
    refine (List.filter_eq_self.2 (fun u hu => ?_)).symm
    rcases hc with hc | hc
    · rw [hc] at hu; simp at hu
    · obtain ⟨k, hk1, hk2, rfl⟩ := known_mem.1 hu
      have hl : 0 < (knownOf gs m).length := List.length_pos_of_mem hu
      rw [known_len] at hl
      have e0 : (knownOf gs m).getD 0 kn0 = knOf gs m := by
        rw [known_eq]
        obtain ⟨q, hq⟩ : ∃ q, gs.length - m = q + 1 := ⟨gs.length - m - 1, by omega⟩
        rw [hq, List.range'_succ]
        rfl
      rw [e0] at hc
      have hc' : n < m + 1 := hc
      show decide (n < k + 1) = true
      exact decide_eq_true (by omega)
  · exact hf
theorem find_range' (p : Nat → Bool) : ∀ (m n : Nat), ((List.range' m n).find? p) = ((List.range (m + n)).find? fun k => decide (m ≤ k) && p k) := fun m n => by
  have e : List.range (m + n) = List.range' 0 m ++ List.range' m n := by
    have h := List.range'_append_1 (s := 0) (m := m) (n := n)
    rw [Nat.zero_add] at h
    rw [List.range_eq_range', h]
  have h0 : (List.range' 0 m).find? (fun k => decide (m ≤ k) && p k) = none := List.find?_eq_none.2 (fun k hk => by rw [List.mem_range'_1] at hk; simp; omega)
  rw [e, List.find?_append, h0, Option.none_or]
  have : ∀ (l : List Nat), (∀ k ∈ l, m ≤ k) → l.find? p = l.find? fun k => decide (m ≤ k) && p k := fun l => by
    induction l with
    | nil => intro _; rfl
    | cons a r ih =>
      intro h
      rw [List.find?_cons, List.find?_cons, ih (fun k hk => h k (by simp [hk]))]
      simp [h a (by simp)]
  exact this _ (fun k hk => by rw [List.mem_range'_1] at hk; omega)
theorem share_any {a : List Bool} (h : a.length = 16) : DeskM.share a a = a.any id := by
  rw [Bool.eq_iff_iff]
  simp only [DeskM.share, List.any_eq_true, List.mem_range, Bool.and_self, id]
  constructor
  · rintro ⟨k, hk, hb⟩
    rw [List.getD] at hb
    exact ⟨true, by rw [List.getElem?_eq_getElem (by omega)] at hb; simp at hb; rw [← hb]; exact List.getElem_mem _, rfl⟩
  · rintro ⟨b, hb, rfl⟩
    obtain ⟨k, hk, e⟩ := List.getElem_of_mem hb
    exact ⟨k, by omega, by simp [List.getD, List.getElem?_eq_getElem hk, e]⟩
def atOf (t : GoodM) : AtM := ⟨t.ticket, t.beg, t.read, DeskM.wroteL t.puts⟩
theorem missedK_eq (gs : List GoodM) (t : GoodM) {n : Nat} (h : n ≤ t.beg) : missedK (atOf t) (knownOf gs n) = ((List.range gs.length).find? fun v => decide (t.beg ≤ v) && DeskM.share (DeskM.wroteL (gs.getD v good0).puts) t.read).elim 0 (· + 1) := by
  have key : ∀ l : List Nat, missedK (atOf t) (l.map (knOf gs)) = (l.find? fun v => decide (t.beg ≤ v) && DeskM.share (DeskM.wroteL (gs.getD v good0).puts) t.read).elim 0 (· + 1) := fun l => by
    induction l with
    | nil => rfl
    | cons a r ih =>
      rw [List.map_cons, missedK, List.find?_cons, ih]
      have e : ((knOf gs a).later (atOf t) && DeskM.share (knOf gs a).a.wrote (atOf t).read) = (decide (t.beg ≤ a) && DeskM.share (DeskM.wroteL (gs.getD a good0).puts) t.read) := by
        show (decide (t.beg < a + 1) && DeskM.share (DeskM.wroteL (gs.getD a good0).puts) t.read) = _
        rw [show (decide (t.beg < a + 1)) = decide (t.beg ≤ a) from decide_eq_decide.2 (by omega)]
      rw [e]
      cases (decide (t.beg ≤ a) && DeskM.share (DeskM.wroteL (gs.getD a good0).puts) t.read)
      · rfl
      · rfl
  rw [known_eq, key, find_range']
  congr 1
  by_cases hn : n ≤ gs.length
  · rw [show n + (gs.length - n) = gs.length by omega]
    congr 1
    funext k
    by_cases hk : t.beg ≤ k
    · simp [hk]; omega
    · simp [hk]
  · have h1 : (List.range n).find? (fun k => decide (n ≤ k) && (decide (t.beg ≤ k) && DeskM.share (DeskM.wroteL (gs.getD k good0).puts) t.read)) = none := List.find?_eq_none.2 (fun k hk => by rw [List.mem_range] at hk; simp; omega)
    have h2 : (List.range gs.length).find? (fun k => decide (t.beg ≤ k) && DeskM.share (DeskM.wroteL (gs.getD k good0).puts) t.read) = none := List.find?_eq_none.2 (fun k hk => by rw [List.mem_range] at hk; simp; omega)
    rw [show n + (gs.length - n) = n by omega, h1, h2]
end Go.Proofs.YtlbmcdoldnajoaaGreat
