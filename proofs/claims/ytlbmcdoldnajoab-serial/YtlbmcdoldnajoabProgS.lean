import Derived.Test.YtlbmcdoldnajoabProgR

namespace Go.Proofs.Ytlbmcdoldnajoab
def tkG (gs : List GoodM) (o : Option Nat) : Nat := o.elim 0 fun u => (gs.getD u good0).ticket
theorem kn_later (gs : List GoodM) (t : GoodM) (u : Nat) : (knOf gs u).later (atOf t) = decide (t.beg ≤ u) := by
  show decide (t.beg < u + 1) = _
  exact decide_eq_decide.2 (by omega)
theorem clashK_list (gs : List GoodM) (t : GoodM) : ∀ (l : List Nat) (p : Nat), clashK (atOf t) (l.map (knOf gs)) p = (l.reverse.find? fun u => decide (t.beg ≤ u) && DeskM.share (DeskM.wroteL (gs.getD u good0).puts) (DeskM.wroteL t.puts)).elim p fun u => (gs.getD u good0).ticket
  | [], p => rfl
  | a :: r, p => by
    rw [List.map_cons, clashK, clashK_list gs t r, List.reverse_cons, List.find?_append]
    have e : ((knOf gs a).later (atOf t) && DeskM.share (knOf gs a).a.wrote (atOf t).wrote) = (decide (t.beg ≤ a) && DeskM.share (DeskM.wroteL (gs.getD a good0).puts) (DeskM.wroteL t.puts)) := by rw [kn_later]; rfl
    rw [e]
    cases (r.reverse.find? fun u => decide (t.beg ≤ u) && DeskM.share (DeskM.wroteL (gs.getD u good0).puts) (DeskM.wroteL t.puts)) with
    | some v => rfl
    | none =>
      rw [Option.none_or, List.find?_singleton]
      cases (decide (t.beg ≤ a) && DeskM.share (DeskM.wroteL (gs.getD a good0).puts) (DeskM.wroteL t.puts)) <;> rfl
theorem pivotK_on (t : AtM) : ∀ (l : List KnM) (p : Nat), p ≠ 0 → pivotK t l p = if l.any (fun u => u.later t && DeskM.share u.a.read t.wrote) then p else 0
  | [], p, _ => rfl
  | a :: r, p, hp => by
    rw [pivotK, List.any_cons]
    simp only [pivotK_on t r p hp, hp, decide_false, Bool.false_and, Bool.false_eq_true, if_false, ne_eq, not_false_eq_true, decide_true, Bool.true_and]
    cases a.later t
    · simp
    · simp
      cases DeskM.share a.a.read t.wrote <;> simp
theorem pivotK_list (gs : List GoodM) (t : GoodM) : ∀ (l : List Nat), l.Pairwise (· < ·) → (∀ u ∈ l, (gs.getD u good0).ticket ≠ 0) →
    pivotK (atOf t) (l.map (knOf gs)) 0 = tkG gs (l.find? fun v => decide (t.beg ≤ v) && DeskM.share (DeskM.wroteL (gs.getD v good0).puts) t.read && l.any fun u => decide (v ≤ u) && DeskM.share (gs.getD u good0).read (DeskM.wroteL t.puts))
  | [], _, _ => rfl
  | a :: r, hs, ht => by
    have ih := pivotK_list gs t r (List.pairwise_cons.1 hs).2 (fun u hu => ht u (by simp [hu]))
    have hlt := (List.pairwise_cons.1 hs).1
    have ha := ht a (by simp)
    have hany : ∀ v ∈ r, ((a :: r).any fun u => decide (v ≤ u) && DeskM.share (gs.getD u good0).read (DeskM.wroteL t.puts)) = (r.any fun u => decide (v ≤ u) && DeskM.share (gs.getD u good0).read (DeskM.wroteL t.puts)) := fun v hv => by
      rw [List.any_cons, decide_eq_false (by have := hlt v hv; omega), Bool.false_and, Bool.false_or]
    have hrest : (r.find? fun v => decide (t.beg ≤ v) && DeskM.share (DeskM.wroteL (gs.getD v good0).puts) t.read && (a :: r).any fun u => decide (v ≤ u) && DeskM.share (gs.getD u good0).read (DeskM.wroteL t.puts)) = (r.find? fun v => decide (t.beg ≤ v) && DeskM.share (DeskM.wroteL (gs.getD v good0).puts) t.read && r.any fun u => decide (v ≤ u) && DeskM.share (gs.getD u good0).read (DeskM.wroteL t.puts)) := by
      have : ∀ l : List Nat, (∀ v ∈ l, v ∈ r) → (l.find? fun v => decide (t.beg ≤ v) && DeskM.share (DeskM.wroteL (gs.getD v good0).puts) t.read && (a :: r).any fun u => decide (v ≤ u) && DeskM.share (gs.getD u good0).read (DeskM.wroteL t.puts)) = (l.find? fun v => decide (t.beg ≤ v) && DeskM.share (DeskM.wroteL (gs.getD v good0).puts) t.read && r.any fun u => decide (v ≤ u) && DeskM.share (gs.getD u good0).read (DeskM.wroteL t.puts)) := fun l => by
        induction l with
        | nil => intro _; rfl
        | cons b s ihs => intro hl; rw [List.find?_cons, List.find?_cons, hany b (hl b (by simp)), ihs (fun v hv => hl v (by simp [hv]))]
      exact this r (fun v hv => hv)
    rw [List.find?_cons, hrest, List.map_cons, pivotK, kn_later]
    by_cases hb : t.beg ≤ a
    · rw [decide_eq_true hb, if_neg (by decide)]
      simp only [decide_true, Bool.true_and]
      have hw : DeskM.share (knOf gs a).a.wrote (atOf t).read = DeskM.share (DeskM.wroteL (gs.getD a good0).puts) t.read := rfl
      rw [hw]
      cases DeskM.share (DeskM.wroteL (gs.getD a good0).puts) t.read
      · simp [ih]
      · have htk : (knOf gs a).a.ticket = (gs.getD a good0).ticket := rfl
        simp only [if_true, htk, decide_eq_true ha, Bool.true_and]
        rw [pivotK_on _ _ _ ha]
        have e2 : ((a :: r).any fun u => decide (a ≤ u) && DeskM.share (gs.getD u good0).read (DeskM.wroteL t.puts)) = (DeskM.share (knOf gs a).a.read (atOf t).wrote || (r.map (knOf gs)).any fun u => u.later (atOf t) && DeskM.share u.a.read (atOf t).wrote) := by
          rw [List.any_cons, decide_eq_true (Nat.le_refl a), Bool.true_and, List.any_map]
          congr 1
          rw [Bool.eq_iff_iff, List.any_eq_true, List.any_eq_true]
          constructor
          · rintro ⟨u, hu, h⟩; refine ⟨u, hu, ?_⟩; show ((knOf gs u).later (atOf t) && _) = true; rw [kn_later, decide_eq_true (by have := hlt u hu; omega)]; rw [decide_eq_true (by have := hlt u hu; omega)] at h; exact h
          · rintro ⟨u, hu, h⟩; refine ⟨u, hu, ?_⟩; rw [decide_eq_true (by have := hlt u hu; omega)]; have h' : ((knOf gs u).later (atOf t) && DeskM.share (gs.getD u good0).read (DeskM.wroteL t.puts)) = true := h; rw [kn_later, decide_eq_true (by have := hlt u hu; omega)] at h'; exact h'
        rw [e2]
        cases DeskM.share (knOf gs a).a.read (atOf t).wrote
        · cases hq : ((r.map (knOf gs)).any fun u => u.later (atOf t) && DeskM.share u.a.read (atOf t).wrote)
          · simp only [Bool.or_self, Bool.false_eq_true, if_false]
            -- none of the rest either
            have hn : (r.find? fun v => decide (t.beg ≤ v) && DeskM.share (DeskM.wroteL (gs.getD v good0).puts) t.read && r.any fun u => decide (v ≤ u) && DeskM.share (gs.getD u good0).read (DeskM.wroteL t.puts)) = none := by
              rw [List.find?_eq_none]
              intro v hv h
              rw [Bool.and_eq_true, List.any_eq_true] at h
              obtain ⟨_, u, hu, h2⟩ := h
              rw [List.any_map, List.any_eq_false] at hq
              refine hq u hu ?_
              show ((knOf gs u).later (atOf t) && DeskM.share (gs.getD u good0).read (DeskM.wroteL t.puts)) = true
              rw [kn_later, decide_eq_true (by have := hlt u hu; omega)]
              rw [Bool.and_eq_true] at h2
              rw [h2.2]; rfl
            rw [hn]; rfl
          · simp [tkG]
        · simp [tkG]
    · rw [decide_eq_false hb, if_pos rfl]
      simp only [Bool.false_and]
      exact ih
theorem find_least {p : Nat → Bool} : ∀ {n v : Nat}, (List.range n).find? p = some v → ∀ k, k < n → p k = true → v ≤ k := fun {n v} h k hk hp => by
  rw [List.find?_range_eq_some] at h
  refine Nat.le_of_not_lt fun hlt => ?_
  have := h.2.2 k hlt
  rw [hp] at this; cases this
theorem missedFor_eq (gs : List GoodM) (t : GoodM) (u : Nat) : (knOf gs u).missedFor (atOf t) = (List.range u).any fun v => decide ((gs.getD u good0).beg ≤ v) && DeskM.share (DeskM.wroteL (gs.getD v good0).puts) (gs.getD u good0).read && (DeskM.share (DeskM.wroteL t.puts) (DeskM.wroteL t.puts) || decide (v + 1 ≤ t.beg)) := by
  have hw : DeskM.share (DeskM.wroteL t.puts) (DeskM.wroteL t.puts) = (DeskM.wroteL t.puts).any id := share_any (by simp [DeskM.wroteL])
  rw [hw]
  show (decide (missedOf gs u ≠ 0) && ((DeskM.wroteL t.puts).any id || decide (missedOf gs u ≤ t.beg))) = _
  unfold missedOf
  cases hf : ((List.range u).find? fun v => decide ((gs.getD u good0).beg ≤ v) && DeskM.share (DeskM.wroteL (gs.getD v good0).puts) (gs.getD u good0).read) with
  | none =>
    rw [List.find?_eq_none] at hf
    symm
    simp only [Option.elim, ne_eq, not_true, decide_false, Bool.false_and]
    rw [List.any_eq_false]
    intro v hv h
    rw [Bool.and_eq_true] at h
    exact hf v hv h.1
  | some v =>
    have hl := fun k hk hp => find_least hf k hk hp
    rw [List.find?_range_eq_some] at hf
    obtain ⟨h1, h2, _⟩ := hf
    show (decide (v + 1 ≠ 0) && ((DeskM.wroteL t.puts).any id || decide (v + 1 ≤ t.beg))) = _
    obtain ⟨b, hb⟩ : ∃ b, b = (DeskM.wroteL t.puts).any id := ⟨_, rfl⟩
    rw [← hb, show decide (v + 1 ≠ 0) = true from decide_eq_true (by omega), Bool.true_and, Bool.eq_iff_iff, Bool.or_eq_true, List.any_eq_true]
    constructor
    · intro h
      refine ⟨v, h2, ?_⟩
      rw [h1, Bool.true_and, Bool.or_eq_true]
      exact h
    · rintro ⟨k, hk, h⟩
      rw [Bool.and_eq_true, Bool.or_eq_true] at h
      rcases h.2 with h3 | h3
      · exact Or.inl h3
      · have hle := hl k (List.mem_range.1 hk) h.1
        have h3' := of_decide_eq_true h3
        exact Or.inr (decide_eq_true (by omega))
theorem outerK_list (gs : List GoodM) (t : GoodM) : ∀ (l : List Nat), outerK (atOf t) (l.map (knOf gs)) = tkG gs (l.find? fun u => decide (t.beg ≤ u) && DeskM.share (DeskM.wroteL (gs.getD u good0).puts) t.read && (List.range u).any fun v => decide ((gs.getD u good0).beg ≤ v) && DeskM.share (DeskM.wroteL (gs.getD v good0).puts) (gs.getD u good0).read && (DeskM.share (DeskM.wroteL t.puts) (DeskM.wroteL t.puts) || decide (v + 1 ≤ t.beg)))
  | [] => rfl
  | a :: r => by
    rw [List.map_cons, outerK, List.find?_cons, outerK_list gs t r, missedFor_eq, kn_later]
    have hw : DeskM.share (knOf gs a).a.wrote (atOf t).read = DeskM.share (DeskM.wroteL (gs.getD a good0).puts) t.read := rfl
    rw [hw]
    cases (decide (t.beg ≤ a) && DeskM.share (DeskM.wroteL (gs.getD a good0).puts) t.read && (List.range a).any fun v => decide ((gs.getD a good0).beg ≤ v) && DeskM.share (DeskM.wroteL (gs.getD v good0).puts) (gs.getD a good0).read && (DeskM.share (DeskM.wroteL t.puts) (DeskM.wroteL t.puts) || decide (v + 1 ≤ t.beg))) <;> rfl
/-- a search whose hits all lie from n on -/
theorem find_from {p : Nat → Bool} {n : Nat} (h : ∀ k, p k = true → n ≤ k) (l : List Nat) : (l.filter fun u => decide (n < u + 1)).find? p = l.find? p := by
  rw [List.find?_filter]
  congr 1
  funext k
  cases e : p k
  · simp
  · have := h k e
    simp; omega
theorem tkG_ne {gs : List GoodM} (hg : ∀ u, u < gs.length → (gs.getD u good0).ticket ≠ 0) {p : Nat → Bool} {l : List Nat} (hl : ∀ k ∈ l, k < gs.length) : (tkG gs (l.find? p) ≠ 0 ↔ (l.find? p).elim 0 (· + 1) ≠ 0) ∧ ((l.find? p).elim 0 (· + 1) ≠ 0 → tkG gs (l.find? p) = (gs.getD ((l.find? p).elim 0 (· + 1) - 1) good0).ticket) := by
  cases e : l.find? p with
  | none => exact ⟨by simp [tkG], by simp⟩
  | some v =>
    have := hg v (hl v (List.mem_of_find?_eq_some e))
    exact ⟨by simp only [tkG, Option.elim]; exact ⟨fun _ => by omega, fun _ => this⟩, fun _ => by simp [tkG]⟩
theorem partnerK_eq (d : DeskM) (hg : ∀ u, u < d.goods.length → (d.goods.getD u good0).ticket ≠ 0) (t : GoodM) {n : Nat} (hn : n ≤ t.beg) :
    (partnerK (atOf t) (knownOf d.goods n) ≠ 0 ↔ d.partner t ≠ 0) ∧ (d.partner t ≠ 0 → partnerK (atOf t) (knownOf d.goods n) = (d.good (d.partner t)).ticket) := by
  have hgd : ∀ u, d.good (u + 1) = d.goods.getD u good0 := fun u => rfl
  have hcl : clashK (atOf t) (knownOf d.goods n) 0 = tkG d.goods ((List.range d.goods.length).reverse.find? fun u => decide (t.beg ≤ u) && DeskM.share (DeskM.wroteL (d.goods.getD u good0).puts) (DeskM.wroteL t.puts)) := by
    unfold knownOf
    rw [clashK_list, ← List.filter_reverse, find_from (fun k hk => by rw [Bool.and_eq_true] at hk; have := of_decide_eq_true hk.1; omega)]
    rfl
  have hpi : pivotK (atOf t) (knownOf d.goods n) 0 = tkG d.goods ((List.range d.goods.length).find? fun v => decide (t.beg ≤ v) && DeskM.share (DeskM.wroteL (d.goods.getD v good0).puts) t.read && (List.range d.goods.length).any fun u => decide (v ≤ u) && DeskM.share (d.goods.getD u good0).read (DeskM.wroteL t.puts)) := by
    unfold knownOf
    rw [pivotK_list _ _ _ (List.pairwise_lt_range.filter _) (fun u hu => hg u (List.mem_range.1 (List.mem_filter.1 hu).1))]
    rw [find_from (fun k hk => by rw [Bool.and_eq_true, Bool.and_eq_true] at hk; have := of_decide_eq_true hk.1.1; omega)]
    congr 2
    funext v
    by_cases hv : t.beg ≤ v
    · congr 1
      rw [List.any_filter]
      congr 1
      funext u
      by_cases hu : v ≤ u
      · rw [decide_eq_true (show n < u + 1 by omega), Bool.true_and]
      · rw [decide_eq_false hu, Bool.false_and, Bool.and_false]
    · rw [decide_eq_false hv]; simp only [Bool.false_and]
  have hou : outerK (atOf t) (knownOf d.goods n) = tkG d.goods ((List.range d.goods.length).find? fun u => decide (t.beg ≤ u) && DeskM.share (DeskM.wroteL (d.goods.getD u good0).puts) t.read && (List.range u).any fun v => decide ((d.goods.getD u good0).beg ≤ v) && DeskM.share (DeskM.wroteL (d.goods.getD v good0).puts) (d.goods.getD u good0).read && (DeskM.share (DeskM.wroteL t.puts) (DeskM.wroteL t.puts) || decide (v + 1 ≤ t.beg))) := by
    unfold knownOf
    rw [outerK_list, find_from (fun k hk => by rw [Bool.and_eq_true, Bool.and_eq_true] at hk; have := of_decide_eq_true hk.1.1; omega)]
  have h1 := tkG_ne hg (p := fun u => decide (t.beg ≤ u) && DeskM.share (DeskM.wroteL (d.goods.getD u good0).puts) (DeskM.wroteL t.puts)) (l := (List.range d.goods.length).reverse) (fun k hk => by simpa using hk)
  have h2 := tkG_ne hg (p := fun v => decide (t.beg ≤ v) && DeskM.share (DeskM.wroteL (d.goods.getD v good0).puts) t.read && (List.range d.goods.length).any fun u => decide (v ≤ u) && DeskM.share (d.goods.getD u good0).read (DeskM.wroteL t.puts)) (l := List.range d.goods.length) (fun k hk => by simpa using hk)
  have h3 := tkG_ne hg (p := fun u => decide (t.beg ≤ u) && DeskM.share (DeskM.wroteL (d.goods.getD u good0).puts) t.read && (List.range u).any fun v => decide ((d.goods.getD u good0).beg ≤ v) && DeskM.share (DeskM.wroteL (d.goods.getD v good0).puts) (d.goods.getD u good0).read && (DeskM.share (DeskM.wroteL t.puts) (DeskM.wroteL t.puts) || decide (v + 1 ≤ t.beg))) (l := List.range d.goods.length) (fun k hk => by simpa using hk)
  rw [← hcl] at h1
  rw [← hpi] at h2
  rw [← hou] at h3
  have e1 : (clashK (atOf t) (knownOf d.goods n) 0 ≠ 0 ↔ d.clash t ≠ 0) ∧ (d.clash t ≠ 0 → clashK (atOf t) (knownOf d.goods n) 0 = (d.good (d.clash t)).ticket) := h1
  have e2 : (pivotK (atOf t) (knownOf d.goods n) 0 ≠ 0 ↔ d.pivot t ≠ 0) ∧ (d.pivot t ≠ 0 → pivotK (atOf t) (knownOf d.goods n) 0 = (d.good (d.pivot t)).ticket) := h2
  have e3 : (outerK (atOf t) (knownOf d.goods n) ≠ 0 ↔ d.outer t ≠ 0) ∧ (d.outer t ≠ 0 → outerK (atOf t) (knownOf d.goods n) = (d.good (d.outer t)).ticket) := h3
  unfold partnerK DeskM.partner
  by_cases c1 : d.clash t ≠ 0
  · rw [if_pos c1, if_pos (e1.1.2 c1)]; exact e1
  · rw [if_neg c1, if_neg (fun h => c1 (e1.1.1 h))]
    by_cases c2 : d.pivot t ≠ 0
    · rw [if_pos c2, if_pos (e2.1.2 c2)]; exact e2
    · rw [if_neg c2, if_neg (fun h => c2 (e2.1.1 h))]; exact e3
end Go.Proofs.Ytlbmcdoldnajoab
