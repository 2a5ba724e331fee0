import Derived.Test.YtlbmcdoldnajoaaGreatDeskS
namespace Go.Proofs.YtlbmcdoldnajoaaGreat
theorem head_mem {l : List Nat} {n : Nat} (h : l.getD 0 0 = n) (hn : n ≠ 0) : n ∈ l := by
  cases l with
  | nil => simp at h; omega
  | cons a r => simp at h; subst h; simp
theorem next_mem {d : DeskM} (h : d.nextJob ≠ 0) : d.nextJob ∈ d.urgent ∨ d.nextJob ∈ d.queue := by
  unfold DeskM.nextJob at *
  split at h
  · rename_i e
    rw [if_pos e]
    exact Or.inl (head_mem rfl h)
  · rename_i e
    rw [if_neg e]
    split at h
    · rename_i e2
      rw [if_pos e2]
      exact Or.inr (head_mem rfl h)
    · exact absurd rfl h
theorem DInv.taken {d : DeskM} (h : DInv d) {i : Nat} (hi : i < d.c.workers) (hi0 : (d.wk i).ticket = 0) : DInv (d.taken i).1 := by
  unfold DeskM.taken
  simp only
  split
  · exact h
  · rename_i hn0
    have hmem := next_mem hn0
    obtain ⟨n, hnn⟩ : ∃ n, n = d.nextJob := ⟨_, rfl⟩
    rw [← hnn] at hmem hn0 ⊢
    have hn : d.Has n ∧ (d.job n).state = 1 := by
      rcases hmem with hm | hm
      · have := (h.urM n).1 hm; exact ⟨this.1, this.2.1⟩
      · have := (h.quM n).1 hm; exact ⟨this.1, this.2.1⟩
    refine dinv_start h hn.1 hn.2 hi hi0 (j := { d.job n with state := 2, tries := (d.job n).tries + 1 }) (h.hurt _ hn.1) rfl rfl (h.quiet _ hn.1 (Or.inl (by omega))) rfl rfl rfl (by simp) (left_nodup h.quD _) (fun m => left_mem) (left_nodup h.urD _) (fun m => left_mem) (fun k hk => ?_)
    exact wk_set (by rw [h.wlen]; exact hi) _ k
theorem mapF_le {d : DeskM} (h : GInv d) {b : Nat} (hb : b ≤ d.goods.length) (k : Int) : mapF (d.goods.take b) k ≤ 9999 := by
  rw [mapF_take _ _ hb]
  exact (chain_bd h.goods k (List.range b) (-1) (fun i hi => by have := List.mem_range.1 hi; omega) ⟨⟨by omega, by omega⟩, fun _ => rfl⟩).1.2
theorem end_bd {l : List St} {x : Mo} (h : x.fin = 0 ∨ x.fin = 4 ∨ x.fin = 5) : 3 ≤ endState l x ∧ endState l x ≤ 5 := by
  unfold endState
  split
  · split <;> omega
  · omega
theorem DInv.looked {d : DeskM} (h : DInv d) {i : Nat} (hi : i < d.c.workers) (hi0 : (d.wk i).ticket ≠ 0) {x : Mo} (hx : x = play (d.job (d.wk i).ticket).steps (mapF (d.goods.take (d.wk i).beg)) d.c.fuel mo0) {state : Int} (hst : state = endState (d.job (d.wk i).ticket).steps x) : DInv (d.looked i x state).1 := by
  obtain ⟨hn, h2, hbeg, _, _, _⟩ := h.work i hi hi0
  have hjob := (h.jobs _ hn).1
  have hfin : x.fin = 0 ∨ x.fin = 4 ∨ x.fin = 5 := by rw [hx]; exact play_fin _ _ _ _ (Or.inl rfl)
  have hbd : 3 ≤ state ∧ state ≤ 5 := by rw [hst]; exact end_bd hfin
  have hin : PutsIn x.puts := by rw [hx]; exact play_in hjob (mapF_le h.g hbeg) _ _ (mo0_ok _) (fun k v hk => by simp [mo0] at hk)
  obtain ⟨n, hnn⟩ : ∃ n, n = (d.wk i).ticket := ⟨_, rfl⟩
  rw [← hnn] at hn h2 hjob hx hst hi0
  have hwi : d.workers.getD i att0 = d.wk i := rfl
  have hno : ¬ DeskM.Over (d.job n) := fun ho => by have := ho.1; omega
  have hnq : n ∉ d.queue := fun hq => by have := ((h.quM n).1 hq).2.1; omega
  have hnu : n ∉ d.urgent := fun hq => by have := ((h.urM n).1 hq).2.1; omega
  have hq := h.quiet n hn (Or.inl (by omega))
  unfold DeskM.looked
  simp only
  rw [hwi, ← hnn]
  obtain ⟨t, ht⟩ : ∃ t : GoodM, t = ⟨n, (d.wk i).beg, x.read, if state = 3 then x.puts else fun _ => none⟩ := ⟨_, rfl⟩
  rw [← ht]
  split
  · rename_i hp
    unfold DeskM.failedJ
    simp only
    have hj : DeskM.job { d with workers := d.workers.set i att0 } n = d.job n := rfl
    rw [hj]
    split
    · rename_i hpat
      have hj1 : ¬ DeskM.Over { d.job n with state := 1, failed := (d.job n).failed + 1, urgent := true } := fun ho => by have := ho.1; simp at this
      refine dinv_stop h hn (j := { d.job n with state := 1, failed := (d.job n).failed + 1, urgent := true }) (fun _ => hpat) rfl ⟨by simp, by simp⟩ (by simp) (fun _ => hq) rfl rfl (h.g.turn hn hno (j := { d.job n with state := 1, failed := (d.job n).failed + 1, urgent := true }) rfl hj1 rfl rfl rfl) (Nat.le_refl _) (fun _ _ => rfl) (by simp [DeskM.setJob]) h.quD (fun m => ?_) ?_ (fun m => ?_) (fun k hk => wk_stop h hi hnn.symm hi0 k hk)
      · show m ∈ d.queue ↔ _
        by_cases e : m = n
        · subst e; simp [hnq]
        · simp [e]
      · exact List.nodup_append.2 ⟨h.urD, by simp, fun a ha b hb => by simp at hb; subst hb; exact fun e => hnu (e ▸ ha)⟩
      · show m ∈ d.urgent ++ [n] ↔ _
        by_cases e : m = n
        · subst e; simp
        · simp [e]
    · rename_i hpat
      have hu : (d.job n).urgent = false := by
        cases e : (d.job n).urgent
        · rfl
        · have := h.hurt n hn e; omega
      have hj1 : ¬ DeskM.Over { d.job n with state := 1, failed := (d.job n).failed + 1 } := fun ho => by have := ho.1; simp at this
      refine dinv_stop h hn (j := { d.job n with state := 1, failed := (d.job n).failed + 1 }) (fun e => by have : (d.job n).urgent = true := e; rw [hu] at this; cases this) rfl ⟨by simp, by simp⟩ (by simp) (fun _ => hq) rfl rfl (h.g.turn hn hno (j := { d.job n with state := 1, failed := (d.job n).failed + 1 }) rfl hj1 rfl rfl rfl) (Nat.le_refl _) (fun _ _ => rfl) (by simp [DeskM.setJob]) ?_ (fun m => ?_) h.urD (fun m => ?_) (fun k hk => wk_stop h hi hnn.symm hi0 k hk)
      · exact List.nodup_append.2 ⟨h.quD, by simp, fun a ha b hb => by simp at hb; subst hb; exact fun e => hnq (e ▸ ha)⟩
      · show m ∈ d.queue ++ [n] ↔ _
        by_cases e : m = n
        · subst e; simp [hu]
        · simp [e]
      · show m ∈ d.urgent ↔ _
        by_cases e : m = n
        · subst e; simp [hu, hnu]
        · simp [e]
  · rename_i hp
    have hp0 : DeskM.partner { d with workers := d.workers.set i att0 } t = 0 := Classical.not_not.1 hp
    have htp : t.puts = if endState (d.job n).steps x = 3 then x.puts else fun _ => none := by rw [ht, ← hst]
    have hkin : PutsIn t.puts := by
      rw [htp]
      split
      · exact hin
      · intro k v hk; cases hk
    have hnp : NoPartner d.goods t := no_partner (d := { d with workers := d.workers.set i att0 }) hp0 (fun i k v hi hs => by have := h.g.goods.keys i k v hi hs; exact ⟨this.1, this.2.1⟩) (fun k v hs => by have := hkin k v hs; exact ⟨this.1, this.2.1⟩)
    have hj : DeskM.job { d with workers := d.workers.set i att0 } n = d.job n := rfl
    rw [hj]
    have hge : GInv { DeskM.setJob { d with workers := d.workers.set i att0 } n { d.job n with state := state, told := x.told } with goods := d.goods ++ [t] } :=
      h.g.found hn hno hjob (t := t) (by rw [ht]) (by rw [ht]; exact hbeg) (x := x) (by rw [ht]; exact hx) (by rw [ht]) htp hkin hnp rfl rfl (j := { d.job n with state := state, told := x.told }) rfl hst rfl rfl
    refine dinv_stop h hn (j := { d.job n with state := state, told := x.told }) (h.hurt n hn) rfl ⟨by show 1 ≤ state; omega, by show state ≤ 6; omega⟩ (by show state ≠ 2; omega) (fun e => by have : state ≤ 2 ∨ state = 6 := e; omega) rfl rfl hge (by simp) (fun b hb => List.take_append_of_le_length hb) (by simp [DeskM.setJob]) h.quD (fun m => ?_) h.urD (fun m => ?_) (fun k hk => wk_stop h hi hnn.symm hi0 k hk)
    · show m ∈ d.queue ↔ _
      have : ¬ state = 1 := by omega
      by_cases e : m = n
      · subst e; simp [hnq, this]
      · simp [e]
    · show m ∈ d.urgent ↔ _
      have : ¬ state = 1 := by omega
      by_cases e : m = n
      · subst e; simp [hnu, this]
      · simp [e]
theorem DInv.step {d : DeskM} (h : DInv d) {i : Nat} (hi : i < d.c.workers) (hi0 : (d.wk i).ticket ≠ 0) (hd : (d.wk i).done + 1 ≤ d.c.fuel) {a : AttM} (ha : a = { d.wk i with done := (d.wk i).done + 1 }) (hf : (d.aX a).fin = 0) (hdn : (d.aX a).done = (d.wk i).done + 1) : DInv { d with workers := d.workers.set i a } := by
  obtain ⟨e, he⟩ : ∃ e : DeskM, e = { d with workers := d.workers.set i a } := ⟨_, rfl⟩
  rw [← he]
  have hwk : ∀ k, e.wk k = if k = i then a else d.wk k := fun k => by rw [he]; exact wk_set (by rw [h.wlen]; exact hi) a k
  have hat : a.ticket = (d.wk i).ticket := by rw [ha]
  have hc : e.c = d.c := by rw [he]
  have hjb : ∀ n, e.job n = d.job n := fun n => by rw [he]; rfl
  have hhas : ∀ n, e.Has n ↔ d.Has n := fun n => by rw [he]; exact Iff.rfl
  have hgd : e.goods = d.goods := by rw [he]
  have hax : ∀ b, e.aX b = d.aX b := fun b => by unfold DeskM.aX; rw [hjb, hgd]
  have htk : ∀ k, (e.wk k).ticket = (d.wk k).ticket := fun k => by
    rw [hwk]
    by_cases e1 : k = i
    · rw [if_pos e1, hat, e1]
    · rw [if_neg e1]
  refine ⟨h.g.same hc hgd (by rw [he]; exact Nat.le_refl _) (fun n _ => by rw [hjb]; exact ⟨rfl, fun _ => ⟨rfl, rfl⟩⟩) (fun n hn ho => by rw [hjb] at ho; exact ⟨(hhas n).1 hn, ho⟩), by rw [hc]; exact h.conf, by rw [he]; simpa using h.wlen, fun n hn => by rw [hjb]; exact h.jobs n ((hhas n).1 hn), fun n hn => by rw [hjb]; exact h.quiet n ((hhas n).1 hn), by rw [he]; exact h.quD, fun n => ?_, by rw [he]; exact h.urD, fun n => ?_, fun k hk ht => ?_, fun k hk ht => ?_, fun n hn h2 => ?_, fun k k2 hk hk2 ht h0 => ?_, fun n hn hu => by rw [hjb] at hu ⊢; rw [hc]; exact h.hurt n ((hhas n).1 hn) hu⟩
  · rw [hhas, hjb]
    have : e.queue = d.queue := by rw [he]
    rw [this]; exact h.quM n
  · rw [hhas, hjb]
    have : e.urgent = d.urgent := by rw [he]
    rw [this]; exact h.urM n
  · rw [hc] at hk
    rw [htk] at ht
    obtain ⟨a1, a2, a3, a4, a5, a6⟩ := h.work k hk ht
    rw [htk, hhas, hjb, hgd, hc, hax, hwk]
    by_cases e1 : k = i
    · subst e1
      rw [if_pos rfl]
      refine ⟨a1, a2, by rw [ha]; exact a3, by rw [ha]; exact hd, hf, by rw [hdn, ha]⟩
    · rw [if_neg e1]; exact ⟨a1, a2, a3, a4, a5, a6⟩
  · rw [hc] at hk
    rw [htk] at ht
    rw [hwk]
    by_cases e1 : k = i
    · subst e1; exact absurd ht hi0
    · rw [if_neg e1]; exact h.idle0 k hk ht
  · rw [hjb] at h2
    obtain ⟨k, hk, ht⟩ := h.runs n ((hhas n).1 hn) h2
    exact ⟨k, by rw [hc]; exact hk, by rw [htk]; exact ht⟩
  · rw [hc] at hk hk2
    rw [htk] at ht h0
    rw [htk] at ht
    exact h.one k k2 hk hk2 ht h0
theorem DInv.goes {d : DeskM} (h : DInv d) {i : Nat} (hi : i < d.c.workers) (hi0 : (d.wk i).ticket ≠ 0) : DInv (d.goes i).1 := by
  obtain ⟨hn, h2, hbeg, hdone, hfin, hdn⟩ := h.work i hi hi0
  have hwi : d.workers.getD i att0 = d.wk i := rfl
  have hax : play (d.job (d.wk i).ticket).steps (mapF (d.goods.take (d.wk i).beg)) (d.wk i).done mo0 = d.aX (d.wk i) := rfl
  unfold DeskM.goes
  simp only
  rw [hwi, hax]
  have hfull : ∀ k, (d.wk i).done + k = d.c.fuel → play (d.job (d.wk i).ticket).steps (mapF (d.goods.take (d.wk i).beg)) d.c.fuel mo0 = play (d.job (d.wk i).ticket).steps (mapF (d.goods.take (d.wk i).beg)) k (d.aX (d.wk i)) := fun k hk => by rw [← hk, play_add, hax]
  split
  · rename_i hpc
    refine h.looked hi hi0 ?_ ?_
    · rw [hfull (d.c.fuel - (d.wk i).done) (by omega), play_end (fun hh => by omega)]
    · rw [endState, if_pos hfin, if_pos hpc]
  · rename_i hpc
    split
    · rename_i hfu
      refine h.looked hi hi0 ?_ ?_
      · rw [hfull 0 (by omega)]; rfl
      · rw [endState, if_pos hfin, if_neg hpc]
    · rename_i hfu
      have hone : play (d.job (d.wk i).ticket).steps (mapF (d.goods.take (d.wk i).beg)) ((d.wk i).done + 1) mo0 = stp ((d.job (d.wk i).ticket).steps.getD (d.aX (d.wk i)).pc stz) (mapF (d.goods.take (d.wk i).beg)) (d.aX (d.wk i)) := by
        rw [play_add, hax, play, if_pos ⟨hfin, by omega⟩]; rfl
      split
      · rename_i hyf
        refine h.looked hi hi0 ?_ ?_
        · have : (d.wk i).done + 1 + (d.c.fuel - ((d.wk i).done + 1)) = d.c.fuel := by omega
          rw [← this, play_add _ _ ((d.wk i).done + 1), play_end (fun hh => hyf hh.1)]
        · rw [endState, if_neg hyf]
      · rename_i hyf
        refine h.step hi hi0 (by omega) rfl ?_ ?_
        · exact Classical.not_not.1 hyf
        · show (play _ _ _ _).done = _
          have : play (d.job (d.wk i).ticket).steps (mapF (d.goods.take (d.wk i).beg)) ((d.wk i).done + 1) mo0 = _ := hone
          rw [this, stp_done, hdn]
theorem DInv.pick {d : DeskM} (h : DInv d) (i : Int) : DInv (d.pick i).1 := by
  unfold DeskM.pick
  split
  · exact h
  · rename_i hw
    have hi : i.toNat < d.c.workers := by simp [DeskM.workerB] at hw; omega
    split
    · rename_i h0; exact h.taken hi h0
    · rename_i h0; exact h.goes hi h0
theorem find_some {l : List Nat} {p : Nat → Bool} {n : Nat} (h : (l.find? p).elim 0 (· + 1) = n) (hn : n ≠ 0) : ∃ u, n = u + 1 ∧ u ∈ l ∧ p u = true := by
  cases e : l.find? p with
  | none => rw [e] at h; simp at h; omega
  | some u => rw [e] at h; simp at h; exact ⟨u, h.symm, List.mem_of_find?_eq_some e, List.find?_some e⟩
theorem share_some {a b : List Bool} (h : DeskM.share a b = true) : ∃ k, k < 16 ∧ a.getD k false = true ∧ b.getD k false = true := by
  simp only [DeskM.share, List.any_eq_true, List.mem_range, Bool.and_eq_true] at h
  exact h
theorem partner_facts {d : DeskM} {t : GoodM} (h : d.partner t ≠ 0) : t.beg < d.partner t ∧ d.partner t ≤ d.goods.length ∧ ∃ k : Nat, ((d.good (d.partner t)).puts k).isSome = true := by
  have hw : ∀ (u : Nat) (b : List Bool), DeskM.share (DeskM.wroteL (d.good (u + 1)).puts) b = true → ∃ k : Nat, ((d.good (u + 1)).puts k).isSome = true := fun u b hs => by
    obtain ⟨k, hk, h1, _⟩ := share_some hs
    rw [wroteL_at _ hk] at h1
    exact ⟨k, h1⟩
  by_cases hc : d.clash t ≠ 0
  · have e : d.partner t = d.clash t := by unfold DeskM.partner; rw [if_pos hc]
    rw [e]
    obtain ⟨u, hu, hm, hp⟩ := find_some (n := d.clash t) rfl hc
    rw [Bool.and_eq_true] at hp
    rw [hu]
    have h1 : t.beg ≤ u := by simpa using hp.1
    have h2 : u < d.goods.length := by simpa using hm
    exact ⟨by omega, by omega, hw u _ hp.2⟩
  · by_cases hv : d.pivot t ≠ 0
    · have e : d.partner t = d.pivot t := by unfold DeskM.partner; rw [if_neg hc, if_pos hv]
      rw [e]
      obtain ⟨u, hu, hm, hp⟩ := find_some (n := d.pivot t) rfl hv
      rw [Bool.and_eq_true, Bool.and_eq_true] at hp
      rw [hu]
      have h1 : t.beg ≤ u := by simpa using hp.1.1
      have h2 : u < d.goods.length := by simpa using hm
      exact ⟨by omega, by omega, hw u _ hp.1.2⟩
    · have e : d.partner t = d.outer t := by unfold DeskM.partner; rw [if_neg hc, if_neg hv]
      have ho : d.outer t ≠ 0 := by rw [← e]; exact h
      rw [e]
      obtain ⟨u, hu, hm, hp⟩ := find_some (n := d.outer t) rfl ho
      rw [Bool.and_eq_true, Bool.and_eq_true] at hp
      rw [hu]
      have h1 : t.beg ≤ u := by simpa using hp.1.1
      have h2 : u < d.goods.length := by simpa using hm
      exact ⟨by omega, by omega, hw u _ hp.1.2⟩
theorem no_later {d : DeskM} {t : GoodM} (h : t.beg = d.goods.length) : d.partner t = 0 := by
  refine Classical.byContradiction fun hp => ?_
  have := partner_facts hp
  omega
structure UInv (d : DeskM) : Prop where
  alone : ∀ i, i < d.c.workers → (d.wk i).ticket ≠ 0 → (d.job (d.wk i).ticket).urgent = true → (d.wk i).beg = d.goods.length ∧ ∀ k, k < d.c.workers → k ≠ i → (d.wk k).ticket = 0
  few : ∀ n, d.Has n → (d.job n).failed ≤ d.c.patience + 1
  calm : ∀ n, d.Has n → (d.job n).urgent = false → (d.job n).failed ≤ d.c.patience
theorem uinv0 (c : ConfM) : UInv (desk0 c) := by
  have hwk : ∀ i, ((desk0 c).wk i) = att0 := fun i => by
    simp only [DeskM.wk, desk0, List.getD]
    by_cases h : i < c.workers
    · simp [h]
    · simp [List.getElem?_eq_none (show (List.replicate c.workers att0).length ≤ i by simp; omega)]
  have hno : ∀ n, ¬ (desk0 c).Has n := fun n h => by have h1 := h.1; have h2 := h.2; simp [desk0] at h2; omega
  exact ⟨fun i _ h => absurd (by rw [hwk]; rfl) h, fun n h => absurd h (hno n), fun n h => absurd h (hno n)⟩
theorem UInv.mono {d e : DeskM} (h : DInv d) (u : UInv d) (hc : e.c = d.c) (hg : e.goods = d.goods) (hj : ∀ n, d.Has n → (e.job n).urgent = (d.job n).urgent ∧ (e.job n).failed = (d.job n).failed)
    (hnew : ∀ n, e.Has n → d.Has n ∨ ((e.job n).urgent = false ∧ (e.job n).failed = 0)) (hw : ∀ k, k < d.c.workers → e.wk k = d.wk k ∨ e.wk k = att0) : UInv e := by
  refine ⟨fun i hi h0 hu => ?_, fun n hn => ?_, fun n hn hu => ?_⟩
  · rw [hc] at hi
    rcases hw i hi with e1 | e1
    · rw [e1] at h0 hu ⊢
      have hn := (h.work i hi h0).1
      rw [(hj _ hn).1] at hu
      obtain ⟨a1, a2⟩ := u.alone i hi h0 hu
      refine ⟨by rw [hg]; exact a1, fun k hk hki => ?_⟩
      rw [hc] at hk
      rcases hw k hk with e2 | e2
      · rw [e2]; exact a2 k hk hki
      · rw [e2]; rfl
    · rw [e1] at h0; exact absurd rfl h0
  · rw [hc]
    rcases hnew n hn with hn' | ⟨_, h0⟩
    · rw [(hj n hn').2]; exact u.few n hn'
    · omega
  · rw [hc]
    rcases hnew n hn with hn' | ⟨_, h0⟩
    · rw [(hj n hn').1] at hu; rw [(hj n hn').2]; exact u.calm n hn' hu
    · omega
theorem UInv.submit {d : DeskM} (h : DInv d) (u : UInv d) (l : List St) : UInv (d.submit l).1 := by
  unfold DeskM.submit
  split
  · exact u
  · split
    · exact u
    · refine u.mono h rfl rfl (fun n hn => ?_) (fun n hn => ?_) (fun k _ => Or.inl rfl)
      · have : DeskM.job { d with jobs := d.jobs ++ [⟨l, 1, [], 0, 0, false⟩], queue := d.queue ++ [d.jobs.length + 1] } n = d.job n := by
          have h1 := hn.1
          have h2 := hn.2
          simp only [DeskM.job, List.getD]
          rw [List.getElem?_append_left (by omega)]
        rw [this]; exact ⟨rfl, rfl⟩
      · have h1 := hn.1
        have h2 : n ≤ d.jobs.length + 1 := by have := hn.2; simpa using this
        by_cases e : n = d.jobs.length + 1
        · right
          have : DeskM.job { d with jobs := d.jobs ++ [⟨l, 1, [], 0, 0, false⟩], queue := d.queue ++ [d.jobs.length + 1] } n = ⟨l, 1, [], 0, 0, false⟩ := by rw [e]; simp [DeskM.job, List.getD]
          rw [this]; exact ⟨rfl, rfl⟩
        · exact Or.inl ⟨h1, by omega⟩
theorem uset {d : DeskM} {n : Nat} (hn : d.Has n) {j : JobM} (hu : j.urgent = (d.job n).urgent) (hf : j.failed = (d.job n).failed) {e : DeskM} (he : e.jobs = (d.setJob n j).jobs) :
    (∀ m, d.Has m → (e.job m).urgent = (d.job m).urgent ∧ (e.job m).failed = (d.job m).failed) ∧ ∀ m, e.Has m → d.Has m := by
  refine ⟨fun m hm => ?_, fun m hm => ⟨hm.1, by have := hm.2; rw [he, set_len] at this; exact this⟩⟩
  have : e.job m = (d.setJob n j).job m := by unfold DeskM.job; rw [he]
  rw [this, job_set hn hm.1]
  by_cases e1 : m = n
  · rw [if_pos e1, e1]; exact ⟨hu, hf⟩
  · rw [if_neg e1]; exact ⟨rfl, rfl⟩
theorem UInv.cancel {d : DeskM} (h : DInv d) (u : UInv d) (n : Int) : UInv (d.cancel n).1 := by
  unfold DeskM.cancel
  split
  · exact u
  · rename_i ht
    split
    · exact u
    · have hn : d.Has n.toNat := by simp [DeskM.ticketB] at ht; unfold DeskM.Has; omega
      obtain ⟨k1, k2⟩ := uset hn (j := { d.job n.toNat with state := 6 }) rfl rfl (e := { d.setJob n.toNat { d.job n.toNat with state := 6 } with queue := DeskM.left d.queue n.toNat, urgent := DeskM.left d.urgent n.toNat, workers := d.workers.map fun a => if a.ticket = n.toNat then att0 else a }) rfl
      refine u.mono h rfl rfl k1 (fun m hm => Or.inl (k2 m hm)) (fun k hk => ?_)
      have hk' : k < d.workers.length := by rw [h.wlen]; exact hk
      simp only [DeskM.wk, List.getD]
      simp only [List.getElem?_map, List.getElem?_eq_getElem hk', Option.map_some, Option.getD_some]
      split
      · exact Or.inr rfl
      · exact Or.inl rfl
theorem UInv.kill {d : DeskM} (h : DInv d) (u : UInv d) (i : Int) : UInv (d.kill i).1 := by
  unfold DeskM.kill
  split
  · exact u
  · rename_i hw
    simp only
    split
    · exact u
    · rename_i hn0
      have hi : i.toNat < d.c.workers := by simp [DeskM.workerB] at hw; omega
      have hn := (h.work i.toNat hi hn0).1
      have hnn : (d.workers.getD i.toNat att0).ticket = (d.wk i.toNat).ticket := rfl
      rw [hnn] at *
      have hws : ∀ k, k < d.c.workers → (d.workers.set i.toNat att0).getD k att0 = d.wk k ∨ (d.workers.set i.toNat att0).getD k att0 = att0 := fun k _ => by
        rw [wk_set (by rw [h.wlen]; exact hi)]
        split
        · exact Or.inr rfl
        · exact Or.inl rfl
      split
      · obtain ⟨k1, k2⟩ := uset hn (j := { d.job (d.wk i.toNat).ticket with state := 1 }) rfl rfl (e := { { d.setJob (d.wk i.toNat).ticket { d.job (d.wk i.toNat).ticket with state := 1 } with workers := d.workers.set i.toNat att0 } with urgent := (d.wk i.toNat).ticket :: d.urgent }) rfl
        exact u.mono h rfl rfl k1 (fun m hm => Or.inl (k2 m hm)) hws
      · obtain ⟨k1, k2⟩ := uset hn (j := { d.job (d.wk i.toNat).ticket with state := 1 }) rfl rfl (e := { { d.setJob (d.wk i.toNat).ticket { d.job (d.wk i.toNat).ticket with state := 1 } with workers := d.workers.set i.toNat att0 } with queue := (d.wk i.toNat).ticket :: d.queue }) rfl
        exact u.mono h rfl rfl k1 (fun m hm => Or.inl (k2 m hm)) hws
end Go.Proofs.YtlbmcdoldnajoaaGreat
