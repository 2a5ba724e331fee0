import Derived.Test.YtlbmcdoldnajoaaGreatProgR
namespace Go.Proofs.YtlbmcdoldnajoaaGreat
def tkG (gs : List GoodM) (o : Option Nat) : Nat := o.elim 0 fun u => (gs.getD u good0).ticket
theorem kn_later (gs : List GoodM) (t : GoodM) (u : Nat) : (knOf gs u).later (atOf t) = decide (t.beg ≤ u) := by
  show decide (t.beg < u + 1) = _
  exact decide_eq_decide.2 (by omega)
theorem clashK_list (gs : List GoodM) (t : GoodM) : ∀ (l : List Nat) (p : Nat), clashK (atOf t) (l.map (knOf gs)) p = (l.reverse.find? fun u => decide (t.beg ≤ u) && DeskM.share (DeskM.wroteL (gs.getD u good0).puts) (DeskM.wroteL t.puts)).elim p fun u => (gs.getD u good0).ticket
  | [], p => rfl
  | a :: r, p => by
    rw [List.map_cons, clashK, clashK_list gs t r, List.reverse_cons, List.find?_append]
    have e : ((knOf gs a).later (atOf t) && DeskM.share (knOf gs a).a.wrote (atOf t).wrote) = (decide (t.beg ≤ a) && DeskM.share (DeskM.wroteL (gs.getD a good0).puts) (DeskM.wroteL t.puts)) := by rw [kn_later]; rfl
    rw [e]
    cases (r.reverse.find? fun u => decide (t.beg ≤ u) && DeskM.share (DeskM.wroteL (gs.getD u good0).puts) (DeskM.wroteL t.puts)) with
    | some v => rfl
    | none =>
      rw [Option.none_or, List.find?_singleton]
      cases (decide (t.beg ≤ a) && DeskM.share (DeskM.wroteL (gs.getD a good0).puts) (DeskM.wroteL t.puts)) <;> rfl
theorem pivotK_on (t : AtM) : ∀ (l : List KnM) (p : Nat), p ≠ 0 → pivotK t l p = if l.any (fun u => u.later t && DeskM.share u.a.read t.wrote) then p else 0
  | [], p, _ => rfl
  | a :: r, p, hp => by
    rw [pivotK, List.any_cons]
    simp only [pivotK_on t r p hp, hp, decide_false, Bool.false_and, Bool.false_eq_true, if_false, ne_eq, not_false_eq_true, decide_true, Bool.true_and]
    cases a.later t
    · simp
    · simp
      cases DeskM.share a.a.read t.wrote <;> simp
theorem pivotK_list (gs : List GoodM) (t : GoodM) : ∀ (l : List Nat), l.Pairwise (· < ·) → (∀ u ∈ l, (gs.getD u good0).ticket ≠ 0) →
    pivotK (atOf t) (l.map (knOf gs)) 0 = tkG gs (l.find? fun v => decide (t.beg ≤ v) && DeskM.share (DeskM.wroteL (gs.getD v good0).puts) t.read && l.any fun u => decide (v ≤ u) && DeskM.share (gs.getD u good0).read (DeskM.wroteL t.puts))
  | [], _, _ => rfl
  | a :: r, hs, ht => by
    have ih := pivotK_list gs t r (List.pairwise_cons.1 hs).2 (fun u hu => ht u (by simp [hu]))
    have hlt := (List.pairwise_cons.1 hs).1
    have ha := ht a (by simp)
    have hany : ∀ v ∈ r, ((a :: r).any fun u => decide (v ≤ u) && DeskM.share (gs.getD u good0).read (DeskM.wroteL t.puts)) = (r.any fun u => decide (v ≤ u) && DeskM.share (gs.getD u good0).read (DeskM.wroteL t.puts)) := fun v hv => by
      rw [List.any_cons, decide_eq_false (by have := hlt v hv; omega), Bool.false_and, Bool.false_or]
    have hrest : (r.find? fun v => decide (t.beg ≤ v) && DeskM.share (DeskM.wroteL (gs.getD v good0).puts) t.read && (a :: r).any fun u => decide (v ≤ u) && DeskM.share (gs.getD u good0).read (DeskM.wroteL t.puts)) = (r.find? fun v => decide (t.beg ≤ v) && DeskM.share (DeskM.wroteL (gs.getD v good0).puts) t.read && r.any fun u => decide (v ≤ u) && DeskM.share (gs.getD u good0).read (DeskM.wroteL t.puts)) := by
      have : ∀ l : List Nat, (∀ v ∈ l, v ∈ r) → (l.find? fun v => decide (t.beg ≤ v) && DeskM.share (DeskM.wroteL (gs.getD v good0).puts) t.read && (a :: r).any fun u => decide (v ≤ u) && DeskM.share (gs.getD u good0).read (DeskM.wroteL t.puts)) = (l.find? fun v => decide (t.beg ≤ v) && DeskM.share (DeskM.wroteL (gs.getD v good0).puts) t.read && r.any fun u => decide (v ≤ u) && DeskM.share (gs.getD u good0).read (DeskM.wroteL t.puts)) := fun l => by
        induction l with
        | nil => intro _; rfl
        | cons b s ihs => intro hl; rw [List.find?_cons, List.find?_cons, hany b (hl b (by simp)), ihs (fun v hv => hl v (by simp [hv]))]
      exact this r (fun v hv => hv)
    rw [List.find?_cons, hrest, List.map_cons, pivotK, kn_later]
    by_cases hb : t.beg ≤ a
    · rw [decide_eq_true hb, if_neg (by decide)]
      simp only [decide_true, Bool.true_and]
      have hw : DeskM.share (knOf gs a).a.wrote (atOf t).read = DeskM.share (DeskM.wroteL (gs.getD a good0).puts) t.read := rfl
      rw [hw]
      cases DeskM.share (DeskM.wroteL (gs.getD a good0).puts) t.read
      · simp [ih]
      · have htk : (knOf gs a).a.ticket = (gs.getD a good0).ticket := rfl
        simp only [if_true, htk, decide_eq_true ha, Bool.true_and]
        rw [pivotK_on _ _ _ ha]
        have e2 : ((a :: r).any fun u => decide (a ≤ u) && DeskM.share (gs.getD u good0).read (DeskM.wroteL t.puts)) = (DeskM.share (knOf gs a).a.read (atOf t).wrote || (r.map (knOf gs)).any fun u => u.later (atOf t) && DeskM.share u.a.read (atOf t).wrote) := by
          rw [List.any_cons, decide_eq_true (Nat.le_refl a), Bool.true_and, List.any_map]
          congr 1
          rw [Bool.eq_iff_iff, List.any_eq_true, List.any_eq_true]
          constructor
          · rintro ⟨u, hu, h⟩; refine ⟨u, hu, ?_⟩; show ((knOf gs u).later (atOf t) && _) = true; rw [kn_later, decide_eq_true (by have := hlt u hu; omega)]; rw [decide_eq_true (by have := hlt u hu; omega)] at h; exact h
          · rintro ⟨u, hu, h⟩; refine ⟨u, hu, ?_⟩; rw [decide_eq_true (by have := hlt u hu; omega)]; have h' : ((knOf gs u).later (atOf t) && DeskM.share (gs.getD u good0).read (DeskM.wroteL t.puts)) = true := h; rw [kn_later, decide_eq_true (by have := hlt u hu; omega)] at h'; exact h'
        rw [e2]
        cases DeskM.share (knOf gs a).a.read (atOf t).wrote
        · cases hq : ((r.map (knOf gs)).any fun u => u.later (atOf t) && DeskM.share u.a.read (atOf t).wrote)
          · simp only [Bool.or_self, Bool.false_eq_true, if_false]
            -- none of the rest either
            have hn : (r.find? fun v => decide (t.beg ≤ v) && DeskM.share (DeskM.wroteL (gs.getD v good0).puts) t.read && r.any fun u => decide (v ≤ u) && DeskM.share (gs.getD u good0).read (DeskM.wroteL t.puts)) = none := by
              rw [List.find?_eq_none]
              intro v hv h
              rw [Bool.and_eq_true, List.any_eq_true] at h
              obtain ⟨_, u, hu, h2⟩ := h
              rw [List.any_map, List.any_eq_false] at hq
              refine hq u hu ?_
              show ((knOf gs u).later (atOf t) && DeskM.share (gs.getD u good0).read (DeskM.wroteL t.puts)) = true
              rw [kn_later, decide_eq_true (by have := hlt u hu; omega)]
              rw [Bool.and_eq_true] at h2
              rw [h2.2]; rfl
            rw [hn]; rfl
          · simp [tkG]
        · simp [tkG]
    · rw [decide_eq_false hb, if_pos rfl]
      simp only [Bool.false_and]
      exact ih
theorem find_least {p : Nat → Bool} : ∀ {n v : Nat}, (List.range n).find? p = some v → ∀ k, k < n → p k = true → v ≤ k := fun {n v} h k hk hp => by
  rw [List.find?_range_eq_some] at h
  refine Nat.le_of_not_lt fun hlt => ?_
  have := h.2.2 k hlt
  rw [hp] at this; cases this
theorem missedFor_eq (gs : List GoodM) (t : GoodM) (u : Nat) : (knOf gs u).missedFor (atOf t) = (List.range u).any fun v => decide ((gs.getD u good0).beg ≤ v) && DeskM.share (DeskM.wroteL (gs.getD v good0).puts) (gs.getD u good0).read && (DeskM.share (DeskM.wroteL t.puts) (DeskM.wroteL t.puts) || decide (v + 1 ≤ t.beg)) := by
  have hw : DeskM.share (DeskM.wroteL t.puts) (DeskM.wroteL t.puts) = (DeskM.wroteL t.puts).any id := share_any (by simp [DeskM.wroteL])
  rw [hw]
  show (decide (missedOf gs u ≠ 0) && ((DeskM.wroteL t.puts).any id || decide (missedOf gs u ≤ t.beg))) = _
  unfold missedOf
  cases hf : ((List.range u).find? fun v => decide ((gs.getD u good0).beg ≤ v) && DeskM.share (DeskM.wroteL (gs.getD v good0).puts) (gs.getD u good0).read) with
  | none =>
    rw [List.find?_eq_none] at hf
    symm
    simp only [Option.elim, ne_eq, not_true, decide_false, Bool.false_and]
    rw [List.any_eq_false]
    intro v hv h
    rw [Bool.and_eq_true] at h
    exact hf v hv h.1
  | some v =>
    have hl := fun k hk hp => find_least hf k hk hp
    rw [List.find?_range_eq_some] at hf
    obtain ⟨h1, h2, _⟩ := hf
    show (decide (v + 1 ≠ 0) && ((DeskM.wroteL t.puts).any id || decide (v + 1 ≤ t.beg))) = _
    obtain ⟨b, hb⟩ : ∃ b, b = (DeskM.wroteL t.puts).any id := ⟨_, rfl⟩
    rw [← hb, show decide (v + 1 ≠ 0) = true from decide_eq_true (by omega), Bool.true_and, Bool.eq_iff_iff, Bool.or_eq_true, List.any_eq_true]
    constructor
    · intro h
      refine ⟨v, h2, ?_⟩
      rw [h1, Bool.true_and, Bool.or_eq_true]
      exact h
    · rintro ⟨k, hk, h⟩
      rw [Bool.and_eq_true, Bool.or_eq_true] at h
      rcases h.2 with h3 | h3
      · exact Or.inl h3
      · have hle := hl k (List.mem_range.1 hk) h.1
        have h3' := of_decide_eq_true h3
        exact Or.inr (decide_eq_true (by omega))
theorem outerK_list (gs : List GoodM) (t : GoodM) : ∀ (l : List Nat), outerK (atOf t) (l.map (knOf gs)) = tkG gs (l.find? fun u => decide (t.beg ≤ u) && DeskM.share (DeskM.wroteL (gs.getD u good0).puts) t.read && (List.range u).any fun v => decide ((gs.getD u good0).beg ≤ v) && DeskM.share (DeskM.wroteL (gs.getD v good0).puts) (gs.getD u good0).read && (DeskM.share (DeskM.wroteL t.puts) (DeskM.wroteL t.puts) || decide (v + 1 ≤ t.beg)))
  | [] => rfl
  | a :: r => by
    rw [List.map_cons, outerK, List.find?_cons, outerK_list gs t r, missedFor_eq, kn_later]
    have hw : DeskM.share (knOf gs a).a.wrote (atOf t).read = DeskM.share (DeskM.wroteL (gs.getD a good0).puts) t.read := rfl
    rw [hw]
    cases (decide (t.beg ≤ a) && DeskM.share (DeskM.wroteL (gs.getD a good0).puts) t.read && (List.range a).any fun v => decide ((gs.getD a good0).beg ≤ v) && DeskM.share (DeskM.wroteL (gs.getD v good0).puts) (gs.getD a good0).read && (DeskM.share (DeskM.wroteL t.puts) (DeskM.wroteL t.puts) || decide (v + 1 ≤ t.beg))) <;> rfl
theorem find_from {p : Nat → Bool} {n : Nat} (h : ∀ k, p k = true → n ≤ k) (l : List Nat) : (l.filter fun u => decide (n < u + 1)).find? p = l.find? p := by
  rw [List.find?_filter]
  congr 1
  funext k
  cases e : p k
  · simp
  · have := h k e
    simp; omega
theorem tkG_ne {gs : List GoodM} (hg : ∀ u, u < gs.length → (gs.getD u good0).ticket ≠ 0) {p : Nat → Bool} {l : List Nat} (hl : ∀ k ∈ l, k < gs.length) : (tkG gs (l.find? p) ≠ 0 ↔ (l.find? p).elim 0 (· + 1) ≠ 0) ∧ ((l.find? p).elim 0 (· + 1) ≠ 0 → tkG gs (l.find? p) = (gs.getD ((l.find? p).elim 0 (· + 1) - 1) good0).ticket) := by
  cases e : l.find? p with
  | none => exact ⟨by simp [tkG], by simp⟩
  | some v =>
    have := hg v (hl v (List.mem_of_find?_eq_some e))
    exact ⟨by simp only [tkG, Option.elim]; exact ⟨fun _ => by omega, fun _ => this⟩, fun _ => by simp [tkG]⟩
theorem partnerK_eq (d : DeskM) (hg : ∀ u, u < d.goods.length → (d.goods.getD u good0).ticket ≠ 0) (t : GoodM) {n : Nat} (hn : n ≤ t.beg) :
    (partnerK (atOf t) (knownOf d.goods n) ≠ 0 ↔ d.partner t ≠ 0) ∧ (d.partner t ≠ 0 → partnerK (atOf t) (knownOf d.goods n) = (d.good (d.partner t)).ticket) := by
  have hgd : ∀ u, d.good (u + 1) = d.goods.getD u good0 := fun u => rfl
  have hcl : clashK (atOf t) (knownOf d.goods n) 0 = tkG d.goods ((List.range d.goods.length).reverse.find? fun u => decide (t.beg ≤ u) && DeskM.share (DeskM.wroteL (d.goods.getD u good0).puts) (DeskM.wroteL t.puts)) := by
    unfold knownOf
    rw [clashK_list, ← List.filter_reverse, find_from (fun k hk => by rw [Bool.and_eq_true] at hk; have := of_decide_eq_true hk.1; omega)]
    rfl
  have hpi : pivotK (atOf t) (knownOf d.goods n) 0 = tkG d.goods ((List.range d.goods.length).find? fun v => decide (t.beg ≤ v) && DeskM.share (DeskM.wroteL (d.goods.getD v good0).puts) t.read && (List.range d.goods.length).any fun u => decide (v ≤ u) && DeskM.share (d.goods.getD u good0).read (DeskM.wroteL t.puts)) := by
    unfold knownOf
    rw [pivotK_list _ _ _ (List.pairwise_lt_range.filter _) (fun u hu => hg u (List.mem_range.1 (List.mem_filter.1 hu).1))]
    rw [find_from (fun k hk => by rw [Bool.and_eq_true, Bool.and_eq_true] at hk; have := of_decide_eq_true hk.1.1; omega)]
    congr 2
    funext v
    by_cases hv : t.beg ≤ v
    · congr 1
      rw [List.any_filter]
      congr 1
      funext u
      by_cases hu : v ≤ u
      · rw [decide_eq_true (show n < u + 1 by omega), Bool.true_and]
      · rw [decide_eq_false hu, Bool.false_and, Bool.and_false]
    · rw [decide_eq_false hv]; simp only [Bool.false_and]
  have hou : outerK (atOf t) (knownOf d.goods n) = tkG d.goods ((List.range d.goods.length).find? fun u => decide (t.beg ≤ u) && DeskM.share (DeskM.wroteL (d.goods.getD u good0).puts) t.read && (List.range u).any fun v => decide ((d.goods.getD u good0).beg ≤ v) && DeskM.share (DeskM.wroteL (d.goods.getD v good0).puts) (d.goods.getD u good0).read && (DeskM.share (DeskM.wroteL t.puts) (DeskM.wroteL t.puts) || decide (v + 1 ≤ t.beg))) := by
    unfold knownOf
    rw [outerK_list, find_from (fun k hk => by rw [Bool.and_eq_true, Bool.and_eq_true] at hk; have := of_decide_eq_true hk.1.1; omega)]
  have h1 := tkG_ne hg (p := fun u => decide (t.beg ≤ u) && DeskM.share (DeskM.wroteL (d.goods.getD u good0).puts) (DeskM.wroteL t.puts)) (l := (List.range d.goods.length).reverse) (fun k hk => by simpa using hk)
  have h2 := tkG_ne hg (p := fun v => decide (t.beg ≤ v) && DeskM.share (DeskM.wroteL (d.goods.getD v good0).puts) t.read && (List.range d.goods.length).any fun u => decide (v ≤ u) && DeskM.share (d.goods.getD u good0).read (DeskM.wroteL t.puts)) (l := List.range d.goods.length) (fun k hk => by simpa using hk)
  have h3 := tkG_ne hg (p := fun u => decide (t.beg ≤ u) && DeskM.share (DeskM.wroteL (d.goods.getD u good0).puts) t.read && (List.range u).any fun v => decide ((d.goods.getD u good0).beg ≤ v) && DeskM.share (DeskM.wroteL (d.goods.getD v good0).puts) (d.goods.getD u good0).read && (DeskM.share (DeskM.wroteL t.puts) (DeskM.wroteL t.puts) || decide (v + 1 ≤ t.beg))) (l := List.range d.goods.length) (fun k hk => by simpa using hk)
  rw [← hcl] at h1
  rw [← hpi] at h2
  rw [← hou] at h3
  have e1 : (clashK (atOf t) (knownOf d.goods n) 0 ≠ 0 ↔ d.clash t ≠ 0) ∧ (d.clash t ≠ 0 → clashK (atOf t) (knownOf d.goods n) 0 = (d.good (d.clash t)).ticket) := h1
  have e2 : (pivotK (atOf t) (knownOf d.goods n) 0 ≠ 0 ↔ d.pivot t ≠ 0) ∧ (d.pivot t ≠ 0 → pivotK (atOf t) (knownOf d.goods n) 0 = (d.good (d.pivot t)).ticket) := h2
  have e3 : (outerK (atOf t) (knownOf d.goods n) ≠ 0 ↔ d.outer t ≠ 0) ∧ (d.outer t ≠ 0 → outerK (atOf t) (knownOf d.goods n) = (d.good (d.outer t)).ticket) := h3
  unfold partnerK DeskM.partner
  by_cases c1 : d.clash t ≠ 0
  · rw [if_pos c1, if_pos (e1.1.2 c1)]; exact e1
  · rw [if_neg c1, if_neg (fun h => c1 (e1.1.1 h))]
    by_cases c2 : d.pivot t ≠ 0
    · rw [if_pos c2, if_pos (e2.1.2 c2)]; exact e2
    · rw [if_neg c2, if_neg (fun h => c2 (e2.1.1 h))]; exact e3
theorem map_getD {α β : Type} (f : α → β) : ∀ (l : List α) (k : Nat) (x : α), (l.map f).getD k (f x) = f (l.getD k x) := fun l k x => by
  simp only [List.getD, List.getElem?_map]
  cases l[k]? <;> rfl
theorem po_task (d : DeskM) (n : Nat) : (progOf d).task n = taskOf (d.job n) := map_getD taskOf d.jobs (n - 1) jobM0
theorem wkOf_zero (d : DeskM) : wkOf d att0 = wk0 := rfl
theorem po_wk (d : DeskM) (i : Nat) : (progOf d).wk i = wkOf d (d.wk i) := by
  have := map_getD (wkOf d) d.workers i att0
  rw [wkOf_zero] at this
  exact this
theorem po_urgent {d : DeskM} (h : DInv d) (u : UInv d) {n : Nat} (hn : d.Has n) : (progOf d).isUrgent n = (d.job n).urgent := by
  unfold PM.isUrgent
  rw [po_task]
  show decide (d.c.patience < (d.job n).failed) = _
  cases e : (d.job n).urgent
  · have := u.calm n hn e
    exact decide_eq_false (by omega)
  · exact decide_eq_true (h.hurt n hn e)
theorem wkOf_congr {d e : DeskM} {a : AttM} (h : a.ticket ≠ 0 → (e.job a.ticket).steps = (d.job a.ticket).steps ∧ e.goods.take a.beg = d.goods.take a.beg) : wkOf e a = wkOf d a := by
  unfold wkOf
  by_cases h0 : a.ticket = 0
  · rw [if_pos h0, if_pos h0]
  · rw [if_neg h0, if_neg h0, (h h0).1, (h h0).2]
def leastD (d : DeskM) : Nat := leastK (d.workers.map (wkOf d)) d.goods.length
theorem leastD_lt (d : DeskM) (k : Nat) : k < leastD d ↔ k < d.goods.length ∧ ∀ a ∈ d.workers, a.ticket ≠ 0 → k < a.beg := by
  unfold leastD
  rw [leastK_lt]
  have : (∀ a ∈ d.workers.map (wkOf d), a.ticket ≠ 0 → k < a.beg) ↔ ∀ a ∈ d.workers, a.ticket ≠ 0 → k < a.beg := by
    constructor
    · intro h a ha h0
      have := h (wkOf d a) (List.mem_map.2 ⟨a, ha, rfl⟩)
      unfold wkOf at this
      rw [if_neg h0] at this
      exact this h0
    · intro h a ha h0
      obtain ⟨b, hb, rfl⟩ := List.mem_map.1 ha
      unfold wkOf at h0 ⊢
      by_cases hb0 : b.ticket = 0
      · rw [if_pos hb0] at h0; exact absurd rfl h0
      · rw [if_neg hb0]; exact h b hb hb0
  rw [this]
theorem leastD_le {d : DeskM} {a : AttM} (ha : a ∈ d.workers) (h0 : a.ticket ≠ 0) : leastD d ≤ a.beg := by
  refine Nat.le_of_not_lt fun h => ?_
  have := ((leastD_lt d a.beg).1 h).2 a ha h0
  omega
theorem leastD_len (d : DeskM) : leastD d ≤ d.goods.length := by
  refine Nat.le_of_not_lt fun h => ?_
  have := ((leastD_lt d _).1 h).1
  omega
theorem leastD_mono {d e : DeskM} (hl : d.goods.length ≤ e.goods.length) (hw : ∀ a ∈ e.workers, a.ticket ≠ 0 → a ∈ d.workers) : leastD d ≤ leastD e := by
  refine Nat.le_of_not_lt fun h => ?_
  have h1 := (leastD_lt d _).1 h
  have h2 : leastD e < leastD e := (leastD_lt e _).2 ⟨by omega, fun a ha h0 => h1.2 a (hw a ha h0) h0⟩
  omega
theorem leastD_eq {d e : DeskM} (h : ∀ k, (k < d.goods.length ∧ ∀ a ∈ d.workers, a.ticket ≠ 0 → k < a.beg) ↔ (k < e.goods.length ∧ ∀ a ∈ e.workers, a.ticket ≠ 0 → k < a.beg)) : leastD d = leastD e := by
  have hk : ∀ k, k < leastD d ↔ k < leastD e := fun k => by rw [leastD_lt, leastD_lt]; exact h k
  have h1 := hk (leastD d)
  have h2 := hk (leastD e)
  omega
theorem runU_nil {d : DeskM} (h : ∀ a ∈ d.workers, a.ticket ≠ 0 → (d.job a.ticket).urgent = false) : runU d = [] := by
  unfold runU
  rw [List.map_eq_nil_iff, List.filter_eq_nil_iff]
  intro a ha hp
  rw [Bool.and_eq_true] at hp
  rw [h a ha (of_decide_eq_true hp.1)] at hp
  exact absurd hp.2 (by decide)
theorem wk_get {d : DeskM} {i : Nat} (hi : i < d.workers.length) : d.workers[i] = d.wk i := by simp [DeskM.wk, List.getD, hi]
theorem wk_at {d : DeskM} {a : AttM} (ha : a ∈ d.workers) : ∃ i, i < d.workers.length ∧ d.wk i = a := by
  obtain ⟨i, hi, e⟩ := List.getElem_of_mem ha
  exact ⟨i, hi, by rw [← wk_get hi]; exact e⟩
theorem wk_mem' {d : DeskM} {i : Nat} (hi : i < d.workers.length) : d.wk i ∈ d.workers := by rw [← wk_get hi]; exact List.getElem_mem _
theorem filter_one {α : Type} {p : α → Bool} : ∀ {l : List α} {i : Nat} (hi : i < l.length), p l[i] = true → (∀ k (hk : k < l.length), k ≠ i → p l[k] = false) → l.filter p = [l[i]]
  | [], i, hi, _, _ => by simp at hi
  | a :: r, 0, hi, h1, h2 => by
    rw [List.filter_cons]
    simp only [List.getElem_cons_zero] at h1
    rw [if_pos h1]
    have : r.filter p = [] := by
      rw [List.filter_eq_nil_iff]
      intro b hb hp
      obtain ⟨k, hk, e⟩ := List.getElem_of_mem hb
      have := h2 (k + 1) (by simp; omega) (by omega)
      rw [List.getElem_cons_succ, e, hp] at this
      cases this
    rw [this]; rfl
  | a :: r, i + 1, hi, h1, h2 => by
    rw [List.filter_cons]
    have h0 := h2 0 (by simp) (by omega)
    simp only [List.getElem_cons_zero] at h0
    rw [h0]
    simp only [Bool.false_eq_true, if_false, List.getElem_cons_succ]
    exact filter_one (by simpa using hi) (by simpa using h1) (fun k hk hki => by have := h2 (k + 1) (by simp; omega) (by omega); simpa using this)
theorem runU_calm {d : DeskM} (h : DInv d) (u : UInv d) {i : Nat} (hi : i < d.c.workers) (hi0 : (d.wk i).ticket ≠ 0) (hu : (d.job (d.wk i).ticket).urgent = false) : runU d = [] := by
  refine runU_nil fun a ha h0 => ?_
  obtain ⟨k, hk, rfl⟩ := wk_at ha
  by_cases e : k = i
  · rw [e]; exact hu
  · exact u.only hi hi0 (by rw [← h.wlen]; exact hk) e h0
theorem runU_one {d : DeskM} (h : DInv d) (u : UInv d) {i : Nat} (hi : i < d.c.workers) (hi0 : (d.wk i).ticket ≠ 0) (hu : (d.job (d.wk i).ticket).urgent = true) : runU d = [(d.wk i).ticket] := by
  have hi' : i < d.workers.length := by rw [h.wlen]; exact hi
  unfold runU
  rw [filter_one hi' (by rw [wk_get, decide_eq_true hi0, hu]; rfl) (fun k hk hki => by
    rw [wk_get, (u.alone i hi hi0 hu).2 k (by rw [← h.wlen]; exact hk) hki]; rfl)]
  rw [wk_get]; rfl
theorem runU_idle {d : DeskM} (h : ∀ k, k < d.workers.length → (d.wk k).ticket = 0) : runU d = [] := by
  refine runU_nil fun a ha h0 => ?_
  obtain ⟨k, hk, rfl⟩ := wk_at ha
  exact absurd (h k hk) h0
theorem po_allIdle {d : DeskM} (h : DInv d) : (progOf d).allIdle = d.idle := by
  unfold PM.allIdle
  show (d.workers.map (wkOf d)).all _ = _
  rw [List.all_map, Bool.eq_iff_iff, List.all_eq_true]
  have hw : ∀ a : AttM, ((fun a : WkM => decide (a.ticket = 0)) ∘ wkOf d) a = decide (a.ticket = 0) := fun a => by
    show decide ((wkOf d a).ticket = 0) = _
    unfold wkOf
    by_cases h0 : a.ticket = 0
    · rw [if_pos h0, decide_eq_true h0]; rfl
    · rw [if_neg h0]
  constructor
  · intro hall
    unfold DeskM.idle
    rw [List.all_eq_true]
    intro j hj
    obtain ⟨k, hk, e⟩ := List.getElem_of_mem hj
    have hhas : d.Has (k + 1) := ⟨by omega, by omega⟩
    have hjob : d.job (k + 1) = j := by simp [DeskM.job, List.getD, hk, e]
    refine decide_eq_true fun h2 => ?_
    obtain ⟨i, hi, ht⟩ := h.runs (k + 1) hhas (by rw [hjob]; exact h2)
    have := hall (d.wk i) (wk_mem' (by rw [h.wlen]; exact hi))
    rw [hw] at this
    have := of_decide_eq_true this
    omega
  · intro hid a ha
    rw [hw]
    refine decide_eq_true (Classical.byContradiction fun h0 => ?_)
    obtain ⟨i, hi, rfl⟩ := wk_at ha
    have hk := h.work i (by rw [← h.wlen]; exact hi) h0
    rw [idle_no hk.1 hk.2.1] at hid
    cases hid
theorem po_hurry {d : DeskM} (h : DInv d) : d.hurry = true ↔ runU d ++ d.urgent ≠ [] := by
  constructor
  · intro hh
    unfold DeskM.hurry at hh
    rw [List.any_eq_true] at hh
    obtain ⟨j, hj, hp⟩ := hh
    rw [Bool.and_eq_true] at hp
    obtain ⟨k, hk, e⟩ := List.getElem_of_mem hj
    have hhas : d.Has (k + 1) := ⟨by omega, by omega⟩
    have hjob : d.job (k + 1) = j := by simp [DeskM.job, List.getD, hk, e]
    have h2 := of_decide_eq_true hp.2
    have h1 := (h.jobs _ hhas).2.1
    rw [hjob] at h1
    by_cases hs : j.state = 1
    · have : k + 1 ∈ d.urgent := (h.urM _).2 ⟨hhas, by rw [hjob]; exact hs, by rw [hjob]; exact hp.1⟩
      intro hnil
      rw [List.append_eq_nil_iff] at hnil
      rw [hnil.2] at this
      simp at this
    · obtain ⟨i, hi, ht⟩ := h.runs (k + 1) hhas (by rw [hjob]; omega)
      have : k + 1 ∈ runU d := by
        unfold runU
        refine List.mem_map.2 ⟨d.wk i, List.mem_filter.2 ⟨wk_mem' (by rw [h.wlen]; exact hi), ?_⟩, ht⟩
        rw [ht, hjob, hp.1, decide_eq_true (show k + 1 ≠ 0 by omega)]
        rfl
      intro hnil
      rw [List.append_eq_nil_iff] at hnil
      rw [hnil.1] at this
      simp at this
  · intro hne
    obtain ⟨n, hn⟩ := List.exists_mem_of_ne_nil _ hne
    rcases List.mem_append.1 hn with hn | hn
    · unfold runU at hn
      obtain ⟨a, ha, rfl⟩ := List.mem_map.1 hn
      have ha' := List.mem_filter.1 ha
      obtain ⟨i, hi, rfl⟩ := wk_at ha'.1
      have hp := ha'.2
      rw [Bool.and_eq_true] at hp
      have hk := h.work i (by rw [← h.wlen]; exact hi) (of_decide_eq_true hp.1)
      exact hurry_yes hk.1 (by have := hk.2.1; omega) hp.2
    · have hk := (h.urM n).1 hn
      exact hurry_yes hk.1 (by have := hk.2.1; omega) hk.2.2
theorem po_next {d : DeskM} (h : DInv d) : (progOf d).next = d.nextJob := by
  unfold PM.next DeskM.nextJob
  rw [po_allIdle h]
  show (if runU d ++ d.urgent = [] then d.queue.getD 0 0 else if d.idle = true then (runU d ++ d.urgent).getD 0 0 else 0) = _
  cases hh : d.hurry
  · rw [if_pos (Classical.byContradiction fun hc => by rw [(po_hurry h).2 hc] at hh; cases hh)]
    rfl
  · rw [if_neg ((po_hurry h).1 hh)]
    cases hi : d.idle
    · rfl
    · have : runU d = [] := runU_idle fun k hk => Classical.byContradiction fun h0 => by
        have hw := h.work k (by rw [← h.wlen]; exact hk) h0
        rw [idle_no hw.1 hw.2.1] at hi; cases hi
      rw [this]; rfl
theorem po_set (d : DeskM) (n : Nat) (j : JobM) : (progOf d).tasks.set (n - 1) (taskOf j) = (d.setJob n j).jobs.map taskOf := by
  show (d.jobs.map taskOf).set (n - 1) (taskOf j) = (d.jobs.set (n - 1) j).map taskOf
  rw [List.map_set]
theorem left_none {l : List Nat} {n : Nat} (h : n ∉ l) : DeskM.left l n = l := by
  unfold DeskM.left
  rw [List.filter_eq_self]
  intro a ha
  exact decide_eq_true (fun e => h (e ▸ ha))
theorem left_head {l : List Nat} {n : Nat} (hd : (n :: l).Nodup) : DeskM.left (n :: l) n = l := by
  unfold DeskM.left
  rw [List.filter_cons, if_neg (by simp)]
  exact left_none (List.nodup_cons.1 hd).1
theorem PM.eq {p q : PM} (h1 : p.c = q.c) (h2 : p.vals = q.vals) (h3 : p.count = q.count) (h4 : p.known = q.known) (h5 : p.tasks = q.tasks) (h6 : p.queue = q.queue) (h7 : p.urgent = q.urgent) (h8 : p.workers = q.workers) : p = q := by
  obtain ⟨a1, a2, a3, a4, a5, a6, a7, a8⟩ := p
  obtain ⟨b1, b2, b3, b4, b5, b6, b7, b8⟩ := q
  simp only at h1 h2 h3 h4 h5 h6 h7 h8
  subst h1 h2 h3 h4 h5 h6 h7 h8
  rfl
theorem po_workers {d e : DeskM} (h : DInv d) {i : Nat} {a : AttM} (he : e.workers = d.workers.set i a)
    (hj : ∀ k, k < d.c.workers → k ≠ i → (d.wk k).ticket ≠ 0 → (e.job (d.wk k).ticket).steps = (d.job (d.wk k).ticket).steps ∧ e.goods.take (d.wk k).beg = d.goods.take (d.wk k).beg) :
    e.workers.map (wkOf e) = (d.workers.map (wkOf d)).set i (wkOf e a) := by
  rw [he, List.map_set]
  refine List.ext_getElem (by simp) (fun k h1 h2 => ?_)
  rw [List.getElem_set, List.getElem_set]
  by_cases e1 : i = k
  · rw [if_pos e1, if_pos e1]
  · rw [if_neg e1, if_neg e1, List.getElem_map, List.getElem_map]
    have hk : k < d.workers.length := by simpa using h1
    rw [wk_get hk]
    exact wkOf_congr (fun h0 => hj k (by rw [← h.wlen]; exact hk) (fun e => e1 e.symm) h0)
theorem set_mem {d : DeskM} {i : Nat} {a b : AttM} (h : b ∈ d.workers.set i a) : b = a ∨ b ∈ d.workers := by
  rcases List.mem_or_eq_of_mem_set h with h | h
  · exact Or.inr h
  · exact Or.inl h
end Go.Proofs.YtlbmcdoldnajoaaGreat
