import Derived.Test.YtlbmcdoldnajoabDeskI

namespace Go.Proofs.Ytlbmcdoldnajoab
theorem wk_set {l : List AttM} {i : Nat} (h : i < l.length) (a : AttM) (k : Nat) : (l.set i a).getD k att0 = if k = i then a else l.getD k att0 := by
  simp only [List.getD]
  by_cases e : k = i
  · subst e; simp [h]
  · rw [if_neg e, List.getElem?_set_ne (fun h => e h.symm)]
theorem left_mem {l : List Nat} {n m : Nat} : m ∈ DeskM.left l n ↔ m ≠ n ∧ m ∈ l := by simp [DeskM.left, and_comm]
theorem left_nodup {l : List Nat} (h : l.Nodup) (n : Nat) : (DeskM.left l n).Nodup := h.filter _
/-- what a run puts -/
def PutsIn (p : Int → Option Int) : Prop := ∀ k v, p k = some v → 0 ≤ k ∧ k ≤ 15 ∧ -1 ≤ v ∧ v ≤ 9999
theorem stp_in {s : St} {i N : Nat} (hs : stB s i N = true) {m : Int → Int} {x : Mo} (hok : MoOk N x) (h : PutsIn x.puts) : PutsIn (stp s m x).puts := by
  have hr := reg_le hok
  have hput : ∀ (y : Mo) (k v : Int), y.puts = x.puts → 0 ≤ k → k ≤ 15 → -1 ≤ v → v ≤ 9999 → PutsIn (putAt y k v).puts := fun y k v hy h0 h1 h2 h3 j u hj => by
    simp only [putAt] at hj
    by_cases e : k = j
    · rw [if_pos e] at hj; injection hj with hj; subst hj; subst e; exact ⟨h0, h1, h2, h3⟩
    · rw [if_neg e, hy] at hj; exact h j u hj
  have hite : ∀ {p : Prop} [Decidable p] {a b : Mo}, (p → PutsIn a.puts) → (¬ p → PutsIn b.puts) → PutsIn (if p then a else b).puts := fun {p} _ {a b} ha hb => by
    by_cases e : p
    · rw [if_pos e]; exact ha e
    · rw [if_neg e]; exact hb e
  have hbec : ∀ (y : Mo) (a v : Int), y.puts = x.puts → PutsIn (bec y a v).puts := fun y a v hy => by unfold bec; split <;> (show PutsIn y.puts; rw [hy]; exact h)
  unfold stp
  simp only
  refine hite (fun _ => h) (fun _ => hite (fun _ => h) (fun _ => hite (fun e => ?_) (fun _ => hite (fun e => ?_) (fun _ => hite (fun _ => hbec _ _ _ rfl) (fun _ => hite (fun _ => hbec _ _ _ rfl) (fun _ => hite (fun _ => hbec _ _ _ rfl) (fun _ => hite (fun _ => hbec _ _ _ rfl) (fun _ => hite (fun _ => hite (fun _ => h) (fun _ => h)) (fun _ => hite (fun _ => hite (fun _ => h) (fun _ => h)) (fun _ => hite (fun _ => h) (fun _ => hite (fun _ => h) (fun _ => h))))))))))))
  · have hb : 0 ≤ s.a ∧ s.a ≤ 15 := by simp [stB, stepB, e, regB, keyB] at hs; omega
    have h1 := hr s.b
    exact hput _ _ _ rfl hb.1 hb.2 (by show -1 ≤ reg x s.b; omega) h1.2
  · have hb : 0 ≤ s.a ∧ s.a ≤ 15 := by simp [stB, stepB, e, keyB] at hs; omega
    exact hput _ _ _ rfl hb.1 hb.2 (by omega) (by omega)
theorem play_in {l : List St} (hj : jobB l = true) {m : Int → Int} (hm : ∀ k, m k ≤ 9999) : ∀ (n : Nat) (x : Mo), MoOk l.length x → PutsIn x.puts → PutsIn (play l m n x).puts
  | 0, _, _, h => h
  | n + 1, x, hok, h => by
    rw [play]
    by_cases hc : x.fin = 0 ∧ x.pc < l.length
    · rw [if_pos hc]
      exact play_in hj hm n _ (stp_ok hok hc.2 hm (jobP_at hj _ hc.2)) (stp_in (jobP_at hj _ hc.2) hok h)
    · rw [if_neg hc]; exact h
/-- an attempt of the job n is found good -/
theorem GInv.found {d e : DeskM} (h : GInv d) {n : Nat} (hn : d.Has n) (hno : ¬ DeskM.Over (d.job n)) (hjob : jobB (d.job n).steps = true) {t : GoodM} (ht : t.ticket = n) (hb : t.beg ≤ d.goods.length) {x : Mo} (hx : x = play (d.job n).steps (mapF (d.goods.take t.beg)) d.c.fuel mo0)
    (hr : t.read = x.read) (hp : t.puts = if endState (d.job n).steps x = 3 then x.puts else fun _ => none) (hk : PutsIn t.puts) (hnp : NoPartner d.goods t) (hc : e.c = d.c) (hg : e.goods = d.goods ++ [t]) {j : JobM} (hs : j.steps = (d.job n).steps)
    (hst : j.state = endState (d.job n).steps x) (hto : j.told = x.told) (he : e.jobs = (d.setJob n j).jobs) : GInv e := by
  have hlen : e.jobs.length = d.jobs.length := by rw [he, set_len]
  have hhas : ∀ m, e.Has m ↔ d.Has m := fun m => by unfold DeskM.Has; rw [hlen]
  have hej : ∀ m, 1 ≤ m → e.job m = if m = n then j else d.job m := fun m hm => by
    have : e.job m = (d.setJob n j).job m := by unfold DeskM.job; rw [he]
    rw [this, job_set hn hm]
  have hover : ∀ i, i < d.goods.length → DeskM.Over (d.job (gAt d.goods i).ticket) := fun i hi => by
    obtain ⟨_, h2, _⟩ := h.gjob i hi
    unfold DeskM.Over
    rw [h2]
    have hf : (d.gX i).fin = 0 ∨ (d.gX i).fin = 4 ∨ (d.gX i).fin = 5 := play_fin (d.gL i) (mapF (d.goods.take (gAt d.goods i).beg)) d.c.fuel mo0 (Or.inl rfl)
    unfold endState
    split
    · split <;> omega
    · omega
  have hne : ∀ i, i < d.goods.length → (gAt d.goods i).ticket ≠ n := fun i hi et => hno (by rw [← et]; exact hover i hi)
  have hgl : e.goods.length = d.goods.length + 1 := by rw [hg]; simp
  have hold : ∀ i, i < d.goods.length → gAt e.goods i = gAt d.goods i := fun i hi => by rw [hg, gAt_old hi]
  have hnewg : gAt e.goods d.goods.length = t := by rw [hg, gAt_new]
  have hL : ∀ i, i < d.goods.length → e.gL i = d.gL i := fun i hi => by
    unfold DeskM.gL
    rw [hold i hi, hej _ (h.gjob i hi).1.1, if_neg (hne i hi)]
  have hLn : e.gL d.goods.length = (d.job n).steps := by
    unfold DeskM.gL
    rw [hnewg, ht, hej n hn.1, if_pos rfl, hs]
  have hX : ∀ i, i < d.goods.length → e.gX i = d.gX i := fun i hi => by
    have hbi : (gAt d.goods i).beg ≤ i := h.goods.ord.begle i hi
    unfold DeskM.gX
    rw [hL i hi, hold i hi, hc, hg, List.take_append_of_le_length (by omega)]
  have hXn : e.gX d.goods.length = x := by
    unfold DeskM.gX
    rw [hLn, hnewg, hc, hg, List.take_append_of_le_length hb, ← hx]
  have hcase : ∀ i, i < e.goods.length → i < d.goods.length ∨ i = d.goods.length := fun i hi => by omega
  refine ⟨?_, fun i hi => ?_, fun i k hi hk2 hik => ?_, fun m hm ho => ?_⟩
  · have := goods_snoc h.goods hjob hb hx hr hp hk hnp
    rw [hc, hg]
    refine this.congr (fun i hi => ?_) (fun i hi => ?_)
    · rcases hcase i (by rw [hg]; exact hi) with e1 | e1
      · rw [if_neg (by omega)]; exact hL i e1
      · rw [if_pos e1, e1]; exact hLn
    · rcases hcase i (by rw [hg]; exact hi) with e1 | e1
      · rw [if_neg (by omega)]; exact hX i e1
      · rw [if_pos e1, e1]; exact hXn
  · rcases hcase i hi with e1 | e1
    · obtain ⟨a1, a2, a3⟩ := h.gjob i e1
      rw [hold i e1, hL i e1, hX i e1, hej _ a1.1, if_neg (hne i e1)]
      exact ⟨(hhas _).2 a1, a2, a3⟩
    · subst e1
      rw [hnewg, hLn, hXn, ht, hej n hn.1, if_pos rfl]
      exact ⟨(hhas n).2 hn, hst, hto⟩
  · rcases hcase i hi with e1 | e1
    · rcases hcase k hk2 with e2 | e2
      · rw [hold i e1, hold k e2] at hik; exact h.gone i k e1 e2 hik
      · rw [e2, hold i e1, hnewg, ht] at hik; exact absurd hik (hne i e1)
    · rcases hcase k hk2 with e2 | e2
      · rw [e1, hold k e2, hnewg, ht] at hik; exact absurd hik.symm (hne k e2)
      · omega
  · by_cases e1 : m = n
    · exact ⟨d.goods.length, by omega, by rw [hnewg, ht, e1]⟩
    · rw [hej m hm.1, if_neg e1] at ho
      obtain ⟨i, hi, hit⟩ := h.gall m ((hhas m).1 hm) ho
      exact ⟨i, by omega, by rw [hold i hi]; exact hit⟩
theorem DInv.submit {d : DeskM} (h : DInv d) (l : List St) : DInv (d.submit l).1 := by
  have hg := h.g.submit l
  unfold DeskM.submit at *
  split
  · exact h
  · rename_i hjb
    split
    · exact h
    · rename_i hq
      rw [if_neg hjb, if_neg hq] at hg
      obtain ⟨e, he⟩ : ∃ e : DeskM, e = { d with jobs := d.jobs ++ [⟨l, 1, [], 0, 0, false⟩], queue := d.queue ++ [d.jobs.length + 1] } := ⟨_, rfl⟩
      simp only at hg ⊢
      rw [← he] at hg ⊢
      have hlen : e.jobs.length = d.jobs.length + 1 := by rw [he]; simp
      have hold : ∀ n, 1 ≤ n → n ≤ d.jobs.length → e.job n = d.job n := fun n h1 h2 => by
        rw [he]; simp only [DeskM.job, List.getD]; rw [List.getElem?_append_left (by omega)]
      have hnew : e.job (d.jobs.length + 1) = ⟨l, 1, [], 0, 0, false⟩ := by rw [he]; simp [DeskM.job, List.getD]
      have hhas : ∀ m, e.Has m → d.Has m ∨ m = d.jobs.length + 1 := fun m hm => by have h1 := hm.1; have h2 := hm.2; unfold DeskM.Has; omega
      have hup : ∀ m, d.Has m → e.Has m := fun m hm => ⟨hm.1, by have := hm.2; omega⟩
      have hnotq : ∀ m, m ∈ d.queue → m ≠ d.jobs.length + 1 := fun m hm => by have := ((h.quM m).1 hm).1.2; omega
      have hwk : ∀ i, e.wk i = d.wk i := fun i => by rw [he]; rfl
      have hc : e.c = d.c := by rw [he]
      have hgd : e.goods = d.goods := by rw [he]
      refine ⟨hg, by rw [hc]; exact h.conf, by rw [he]; exact h.wlen, fun m hm => ?_, fun m hm => ?_, ?_, fun m => ?_, by rw [he]; exact h.urD, fun m => ?_, fun i hi ht => ?_, fun i hi ht => ?_, fun m hm h2 => ?_, fun i k hi hk ht h0 => ?_, fun m hm hu => ?_⟩
      · rcases hhas m hm with hm' | rfl
        · rw [hold m hm'.1 hm'.2]; exact h.jobs m hm'
        · rw [hnew]; exact ⟨by simpa using hjb, by simp, by simp⟩
      · rcases hhas m hm with hm' | rfl
        · rw [hold m hm'.1 hm'.2]; exact h.quiet m hm'
        · rw [hnew]; exact fun _ => rfl
      · rw [he]
        exact List.nodup_append.2 ⟨h.quD, by simp, fun a ha b hb => by simp at hb; subst hb; exact hnotq a ha⟩
      · have hq' : m ∈ e.queue ↔ m ∈ d.queue ∨ m = d.jobs.length + 1 := by rw [he]; simp
        rw [hq']
        constructor
        · rintro (a | rfl)
          · have := (h.quM m).1 a; rw [hold m this.1.1 this.1.2]; exact ⟨hup m this.1, this.2⟩
          · exact ⟨⟨by omega, by omega⟩, by rw [hnew], by rw [hnew]⟩
        · rintro ⟨a, b⟩
          rcases hhas m a with hm' | rfl
          · rw [hold m hm'.1 hm'.2] at b; exact Or.inl ((h.quM m).2 ⟨hm', b⟩)
          · exact Or.inr rfl
      · have hu' : e.urgent = d.urgent := by rw [he]
        rw [hu']
        constructor
        · intro a
          have := (h.urM m).1 a; rw [hold m this.1.1 this.1.2]; exact ⟨hup m this.1, this.2⟩
        · rintro ⟨a, b⟩
          rcases hhas m a with hm' | rfl
          · rw [hold m hm'.1 hm'.2] at b; exact (h.urM m).2 ⟨hm', b⟩
          · rw [hnew] at b; exact absurd b.2 (by simp)
      · rw [hwk] at ht ⊢
        rw [hc] at hi
        obtain ⟨a1, a2, a3, a4, a5, a6⟩ := h.work i hi ht
        have hax : e.aX (d.wk i) = d.aX (d.wk i) := by unfold DeskM.aX; rw [hold _ a1.1 a1.2, hgd]
        exact ⟨hup _ a1, by rw [hold _ a1.1 a1.2]; exact a2, by rw [hgd]; exact a3, by rw [hc]; exact a4, by rw [hax]; exact a5, by rw [hax]; exact a6⟩
      · rw [hwk] at ht ⊢; exact h.idle0 i (by rw [hc] at hi; exact hi) ht
      · rcases hhas m hm with hm' | rfl
        · rw [hold m hm'.1 hm'.2] at h2
          obtain ⟨i, hi, ht⟩ := h.runs m hm' h2
          exact ⟨i, by rw [hc]; exact hi, by rw [hwk]; exact ht⟩
        · rw [hnew] at h2; exact absurd h2 (by simp)
      · rw [hwk] at ht h0; rw [hwk] at ht
        exact h.one i k (by rw [hc] at hi; exact hi) (by rw [hc] at hk; exact hk) ht h0
      · rcases hhas m hm with hm' | rfl
        · rw [hold m hm'.1 hm'.2] at hu ⊢; rw [hc]; exact h.hurt m hm' hu
        · rw [hnew] at hu; exact absurd hu (by simp)
theorem DInv.cancel {d : DeskM} (h : DInv d) (n : Int) : DInv (d.cancel n).1 := by
  unfold DeskM.cancel
  split
  · exact h
  · rename_i ht
    split
    · exact h
    · rename_i hs
      have hn : d.Has n.toNat := by simp [DeskM.ticketB] at ht; unfold DeskM.Has; omega
      have hno : ¬ DeskM.Over (d.job n.toNat) := fun ho => by have := ho.1; omega
      have hj6 : ¬ DeskM.Over { d.job n.toNat with state := 6 } := fun ho => by have := ho.2; simp at this
      refine dinv_stop h hn (j := { d.job n.toNat with state := 6 }) (h.hurt _ hn) rfl ⟨by simp, by simp⟩ (by simp) (fun _ => h.quiet _ hn (Or.inl (by omega))) rfl rfl (h.g.turn hn hno (j := { d.job n.toNat with state := 6 }) rfl hj6 rfl rfl rfl) (Nat.le_refl _) (fun _ _ => rfl) (by simp) (left_nodup h.quD _) (fun m => ?_) (left_nodup h.urD _) (fun m => ?_) (fun k hk => ?_)
      · show m ∈ DeskM.left d.queue n.toNat ↔ _
        rw [left_mem]; simp
      · show m ∈ DeskM.left d.urgent n.toNat ↔ _
        rw [left_mem]; simp
      · simp only [DeskM.wk, List.getD]
        have hk' : k < d.workers.length := by rw [h.wlen]; exact hk
        simp [hk']
theorem wk_stop {d : DeskM} (h : DInv d) {i : Nat} (hi : i < d.c.workers) {n : Nat} (hn : (d.wk i).ticket = n) (hn0 : n ≠ 0) (k : Nat) (hk : k < d.c.workers) : (d.workers.set i att0).getD k att0 = if (d.wk k).ticket = n then att0 else d.wk k := by
  rw [wk_set (by rw [h.wlen]; exact hi)]
  by_cases e : k = i
  · rw [if_pos e, e, if_pos hn]
  · rw [if_neg e]
    by_cases e2 : (d.wk k).ticket = n
    · exact absurd (h.one k i hk hi (by rw [e2, hn]) (by rw [e2]; exact hn0)) e
    · rw [if_neg e2]; rfl
theorem DInv.kill {d : DeskM} (h : DInv d) (i : Int) : DInv (d.kill i).1 := by
  unfold DeskM.kill
  split
  · exact h
  · rename_i hw
    simp only
    split
    · exact h
    · rename_i hn0
      have hi : i.toNat < d.c.workers := by simp [DeskM.workerB] at hw; omega
      obtain ⟨hn, h2, _⟩ := h.work i.toNat hi hn0
      obtain ⟨n, hnn⟩ : ∃ n, n = (d.wk i.toNat).ticket := ⟨_, rfl⟩
      have hnn' : (d.workers.getD i.toNat att0).ticket = n := hnn.symm
      rw [hnn'] at hn0 ⊢
      rw [← hnn] at hn h2
      have hno : ¬ DeskM.Over (d.job n) := fun ho => by have := ho.1; omega
      have hj1 : ¬ DeskM.Over { d.job n with state := 1 } := fun ho => by have := ho.1; simp at this
      have hnq : n ∉ d.queue := fun hq => by have := ((h.quM n).1 hq).2.1; omega
      have hnu : n ∉ d.urgent := fun hq => by have := ((h.urM n).1 hq).2.1; omega
      by_cases hu : (d.job n).urgent = true
      · rw [if_pos hu]
        refine dinv_stop h hn (j := { d.job n with state := 1 }) (h.hurt _ hn) rfl ⟨by simp, by simp⟩ (by simp) (fun _ => h.quiet _ hn (Or.inl (by omega))) rfl rfl (h.g.turn hn hno (j := { d.job n with state := 1 }) rfl hj1 rfl rfl rfl) (Nat.le_refl _) (fun _ _ => rfl) (by simp) ?_ (fun m => ?_) ?_ (fun m => ?_) (fun k hk => wk_stop h hi hnn.symm hn0 k hk)
        · exact h.quD
        · show m ∈ d.queue ↔ _
          by_cases e : m = n
          · subst e; simp [hu, hnq]
          · simp [e]
        · exact List.nodup_cons.2 ⟨hnu, h.urD⟩
        · show m ∈ n :: d.urgent ↔ _
          rw [List.mem_cons]
          by_cases e : m = n
          · subst e; simp [hu]
          · simp [e]

      · rw [if_neg hu]
        have hu : (d.job n).urgent = false := by simpa using hu
        refine dinv_stop h hn (j := { d.job n with state := 1 }) (h.hurt _ hn) rfl ⟨by simp, by simp⟩ (by simp) (fun _ => h.quiet _ hn (Or.inl (by omega))) rfl rfl (h.g.turn hn hno (j := { d.job n with state := 1 }) rfl hj1 rfl rfl rfl) (Nat.le_refl _) (fun _ _ => rfl) (by simp) ?_ (fun m => ?_) ?_ (fun m => ?_) (fun k hk => wk_stop h hi hnn.symm hn0 k hk)
        · exact List.nodup_cons.2 ⟨hnq, h.quD⟩
        · show m ∈ n :: d.queue ↔ _
          rw [List.mem_cons]
          by_cases e : m = n
          · subst e; simp [hu]
          · simp [e]
        · exact h.urD
        · show m ∈ d.urgent ↔ _
          by_cases e : m = n
          · subst e; simp [hu, hnu]
          · simp [e]
end Go.Proofs.Ytlbmcdoldnajoab
