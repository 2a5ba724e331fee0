/- Named, PureK, Plain1, Plain2, FrK -/
import Derived.Test.YtlbmcdoldnajoaaRanKit
import Derived.Test.YtlbmcdoldnajoaaLists
import Derived.Test.YtlbmcdoldnajoaaKnownK
import Derived.Test.YtlbmcdoldnajoaaStepW
import Derived.Test.YtlbmcdoldnajoaaOpenI

/- pivotkeep's 'named': does a job name a key? -/
namespace Go.Proofs.Ytlbmcdoldnajoaa
open Go.RowKit

def nameB (k : Int) (s : St) : Bool := (decide (s.op = 2) && decide (s.b = k)) || ((decide (s.op = 3) || decide (s.op = 4)) && decide (s.a = k)) || ((decide (s.op = 5) || decide (s.op = 6)) && decide (s.b ≤ k ∧ k ≤ s.c))
def namedB (l : List St) (k : Int) : Bool := l.any (nameB k)

theorem named_yes {l : List St} {k : Int} {j : Nat} (h : j < l.length) (hk : nameB k (l.getD j stz) = true) : namedB l k = true := by
  unfold namedB
  rw [List.any_eq_true]
  exact ⟨_, by simp [List.getD, h], hk⟩
theorem named_no {l : List St} {k : Int} (h : ∀ t, t < l.length → nameB k (l.getD t stz) = false) : namedB l k = false := by
  unfold namedB
  rw [List.any_eq_false]
  intro x hx
  obtain ⟨i, hi, rfl⟩ := List.getElem_of_mem hx
  have := h i hi
  simpa [List.getD, hi] using this

set_option maxRecDepth 100000 in
set_option maxHeartbeats 4000000 in
theorem named_at (l : List St) (k : Int) (g off cap n : Nat) (w : World) (hg : g < w.heap.size) (hn : n = l.length) (hn1 : n ≤ 1000) (hp : StepsAt w g off l) :
    Calls Try.prog 28 #[.slice (some ⟨g, off, none⟩) n cap, .int .i64 k] w fun e w' => e = .returned (.bool (namedB l k)) ∧ Below w.heap.size w w' := by
  have HN : Hid (n = l.length) := hn
  have HP : Hid (StepsAt w g off l) := hp
  clear hn hp
  go_enter Try.func28, Try.ntmps28
  go_wp2
  go_loopw [5] (fun i wr => ∃ j : Nat, j ≤ n ∧ i = .int .i64 j ∧ (∀ t, t < j → nameB k (l.getD t stz) = false) ∧ Below w.heap.size w wr) (fun i _ => n - (intOf i).toNat)
  case atStart => exact ⟨0, Nat.zero_le _, rfl, fun t ht => absurd ht (Nat.not_lt_zero _), Below.refl _ _⟩
  case round =>
    obtain ⟨j, hj, rfl, hall, hbel⟩ := hrel
    have HA : Hid (∀ t, t < j → nameB k (l.getD t stz) = false) := hall
    have HBl : Hid (Below w.heap.size w wr) := hbel
    clear hall hbel
    by_cases hlt : j < n
    · have hlt' : j < l.length := by rw [← HN.out]; exact hlt
      obtain ⟨c0, c1, c2, c3⟩ := (HP.out.below HBl.out hg) j hlt'
      have HY : Hid (nameB k (l.getD j stz) = true → namedB l k = true) := fun h => named_yes hlt' h
      have HNo : Hid (nameB k (l.getD j stz) = false → ∀ t, t < j + 1 → nameB k (l.getD t stz) = false) := fun h t ht => by
        by_cases htj : t = j
        · subst htj; exact h
        · exact HA.out t (by omega)
      obtain ⟨s, hs⟩ : ∃ s, s = l.getD j stz := ⟨_, rfl⟩
      rw [← hs] at c0 c1 c2 c3 HY HNo
      clear hs
      obtain ⟨op, a, b, c⟩ := s
      simp only at c0 c1 c2 c3
      have hsize := HBl.out.size
      have m1 : (j : Int) < (n : Int) := by omega
      have HOp : Hid (nameB k ⟨op, a, b, c⟩ = ((decide (op = 2) && decide (b = k)) || ((decide (op = 3) || decide (op = 4)) && decide (a = k)) || ((decide (op = 5) || decide (op = 6)) && decide (b ≤ k ∧ k ≤ c)))) := rfl
      rcases (show (op = 2 ∧ b = k) ∨ (op = 3 ∧ a = k) ∨ (op = 4 ∧ a = k) ∨ (op = 5 ∧ b ≤ k ∧ k ≤ c) ∨ (op = 6 ∧ b ≤ k ∧ k ≤ c) ∨ ((op = 2 ∧ ¬ b = k) ∨ (op = 3 ∧ ¬ a = k) ∨ (op = 4 ∧ ¬ a = k) ∨ (op = 5 ∧ ¬ b ≤ k) ∨ (op = 5 ∧ b ≤ k ∧ ¬ k ≤ c) ∨ (op = 6 ∧ ¬ b ≤ k) ∨ (op = 6 ∧ b ≤ k ∧ ¬ k ≤ c) ∨ (¬ op = 2 ∧ ¬ op = 3 ∧ ¬ op = 4 ∧ ¬ op = 5 ∧ ¬ op = 6)) by omega) with ⟨rfl, q1⟩ | ⟨rfl, q1⟩ | ⟨rfl, q1⟩ | ⟨rfl, q1, q2⟩ | ⟨rfl, q1, q2⟩ | (⟨rfl, q1⟩ | ⟨rfl, q1⟩ | ⟨rfl, q1⟩ | ⟨rfl, q1⟩ | ⟨rfl, q1, q2⟩ | ⟨rfl, q1⟩ | ⟨rfl, q1, q2⟩ | ⟨q1, q2, q3, q4, q5⟩)
      iterate 5
        · go_wp2
          go_ret
          refine ⟨ret_bool (HY.out ?_).symm, HBl.out.alloc hsize _⟩
          rw [HOp.out]; simp [*]
      all_goals
        go_wp2
        go_roundw
        case rel => exact ⟨j + 1, by omega, by go_num, HNo.out (by rw [HOp.out]; simp [*] <;> omega), HBl.out.alloc hsize _⟩
        case measure => simp [intOf]; omega
    · go_wp2
      go_ret
      exact ⟨ret_bool (named_no (fun t ht => HA.out t (by have := HN.out; omega))).symm, HBl.out⟩

end Go.Proofs.Ytlbmcdoldnajoaa

/- Plain facts about runs: a key that no step names; more fuel; maps as lists. Nothing of the program. -/
namespace Go.Proofs.Ytlbmcdoldnajoaa

theorem sumK_congr {f g : Int → Int} {b : Int} : ∀ n : Nat, (∀ j : Nat, j < n → f (b + j) = g (b + j)) → sumK f b n = sumK g b n
  | 0, _ => rfl
  | n + 1, h => by rw [sumK, sumK, sumK_congr n (fun j hj => h j (by omega)), h n (by omega)]
theorem cntK_congr {f g : Int → Int} {b : Int} : ∀ n : Nat, (∀ j : Nat, j < n → f (b + j) = g (b + j)) → cntK f b n = cntK g b n
  | 0, _ => rfl
  | n + 1, h => by rw [cntK, cntK, cntK_congr n (fun j hj => h j (by omega)), h n (by omega)]

theorem see_congr {m m' : Int → Int} {k : Int} (hm : ∀ j, j ≠ k → m j = m' j) (puts : Int → Option Int) {j : Int} (hj : j ≠ k) : see m puts j = see m' puts j := by simp [see, hm j hj]

theorem name2 {k : Int} {s : St} (h : nameB k s = false) (e : s.op = 2) : s.b ≠ k := by intro h'; simp [nameB, e, h'] at h
theorem name34 {k : Int} {s : St} (h : nameB k s = false) (e : s.op = 3 ∨ s.op = 4) : s.a ≠ k := by intro h'; rcases e with e | e <;> simp [nameB, e, h'] at h
theorem name56 {k : Int} {s : St} (h : nameB k s = false) (e : s.op = 5 ∨ s.op = 6) : ¬ (s.b ≤ k ∧ k ≤ s.c) := by intro h'; rcases e with e | e <;> simp [nameB, e, h'] at h

theorem ite_same {α : Type} {p : Prop} [Decidable p] {a b a' b' : α} (h1 : p → a = a') (h2 : ¬ p → b = b') : (if p then a else b) = (if p then a' else b') := by
  by_cases h : p
  · rw [if_pos h, if_pos h]; exact h1 h
  · rw [if_neg h, if_neg h]; exact h2 h

/-- a step that does not name k does the same over maps that agree elsewhere -/
theorem stp_congr {s : St} {m m' : Int → Int} {k : Int} {x : Mo} (h : nameB k s = false) (hm : ∀ j, j ≠ k → m j = m' j) : stp s m x = stp s m' x := by
  have h5 : s.op = 5 ∨ s.op = 6 → ∀ j : Nat, j < (s.c - s.b + 1).toNat → see m x.puts (s.b + j) = see m' x.puts (s.b + j) := fun e j hj => see_congr hm _ (by have := name56 h e; omega)
  unfold stp
  simp only
  refine ite_same (fun _ => rfl) (fun _ => ite_same (fun e => ?_) (fun _ => ite_same (fun _ => rfl) (fun _ => ite_same (fun _ => rfl) (fun _ => ite_same (fun e => ?_) (fun _ => ite_same (fun e => ?_) (fun _ => rfl))))))
  · rw [see_congr hm _ (name2 h e)]
  · rw [sumK_congr _ (h5 (Or.inl e))]
  · rw [cntK_congr _ (h5 (Or.inr e))]

theorem puts_ite {p : Prop} [Decidable p] {a b : Mo} {k : Int} {v : Option Int} (ha : p → a.puts k = v) (hb : ¬ p → b.puts k = v) : (if p then a else b).puts k = v := by
  by_cases h : p
  · rw [if_pos h]; exact ha h
  · rw [if_neg h]; exact hb h
theorem bec_puts (x : Mo) (a v k : Int) : (bec x a v).puts k = x.puts k := by unfold bec; split <;> rfl

/-- and puts nothing there -/
theorem stp_puts {s : St} {m : Int → Int} {k : Int} {x : Mo} (h : nameB k s = false) : (stp s m x).puts k = x.puts k := by
  unfold stp
  simp only
  refine puts_ite (fun _ => rfl) (fun _ => puts_ite (fun _ => rfl) (fun _ => puts_ite (fun e => ?_) (fun _ => puts_ite (fun e => ?_) (fun _ => puts_ite (fun _ => bec_puts _ _ _ _) (fun _ => puts_ite (fun _ => bec_puts _ _ _ _) (fun _ => puts_ite (fun _ => bec_puts _ _ _ _) (fun _ => puts_ite (fun _ => bec_puts _ _ _ _) (fun _ => puts_ite (fun _ => puts_ite (fun _ => rfl) (fun _ => rfl)) (fun _ => puts_ite (fun _ => puts_ite (fun _ => rfl) (fun _ => rfl)) (fun _ => puts_ite (fun _ => rfl) (fun _ => puts_ite (fun _ => rfl) (fun _ => rfl))))))))))))
  · simp [putAt, name34 h (Or.inl e)]
  · simp [putAt, name34 h (Or.inr e)]

theorem named_get {l : List St} {k : Int} (h : namedB l k = false) {j : Nat} (hj : j < l.length) : nameB k (l.getD j stz) = false := by
  have e : l.getD j stz = l[j] := by simp [List.getD, hj]
  rw [e]
  simp only [namedB, List.any_eq_false] at h
  have := h l[j] (List.getElem_mem _)
  simpa using this

theorem play_congr {l : List St} {m m' : Int → Int} {k : Int} (h : namedB l k = false) (hm : ∀ j, j ≠ k → m j = m' j) : ∀ (n : Nat) (x : Mo), play l m n x = play l m' n x
  | 0, _ => rfl
  | n + 1, x => by
    rw [play, play]
    refine ite_same (fun hp => ?_) (fun _ => rfl)
    rw [stp_congr (named_get h hp.2) hm]
    exact play_congr h hm n _
theorem play_puts {l : List St} {m : Int → Int} {k : Int} (h : namedB l k = false) : ∀ (n : Nat) (x : Mo), (play l m n x).puts k = x.puts k
  | 0, _ => rfl
  | n + 1, x => by
    rw [play]
    refine puts_ite (fun hp => ?_) (fun _ => rfl)
    rw [play_puts h n, stp_puts (named_get h hp.2)]

/- more fuel -/
theorem play_add (l : List St) (m : Int → Int) : ∀ (a b : Nat) (x : Mo), play l m (a + b) x = play l m b (play l m a x)
  | 0, b, x => by rw [Nat.zero_add]; rfl
  | a + 1, b, x => by
    rw [show a + 1 + b = (a + b) + 1 by omega, play, play]
    by_cases h : x.fin = 0 ∧ x.pc < l.length
    · rw [if_pos h, if_pos h]; exact play_add l m a b _
    · rw [if_neg h, if_neg h, play_end h]

theorem pre_ite {p : Prop} [Decidable p] {a b : Mo} {t : List Int} (ha : t <+: a.told) (hb : t <+: b.told) : t <+: (if p then a else b).told := by split <;> assumption
theorem bec_pre {t : List Int} (x : Mo) (a v : Int) (h : t = x.told) : t <+: (bec x a v).told := by unfold bec; split <;> (rw [h]; exact List.prefix_refl _)
theorem stp_pre (s : St) (m : Int → Int) (x : Mo) : x.told <+: (stp s m x).told := by
  have r : x.told <+: x.told := List.prefix_refl _
  unfold stp
  simp only
  exact pre_ite r (pre_ite r (pre_ite r (pre_ite r (pre_ite (bec_pre _ _ _ rfl) (pre_ite (bec_pre _ _ _ rfl) (pre_ite (bec_pre _ _ _ rfl) (pre_ite (bec_pre _ _ _ rfl) (pre_ite (pre_ite r r) (pre_ite (pre_ite r r) (pre_ite (List.prefix_append _ _) (pre_ite r r)))))))))))
theorem play_pre (l : List St) (m : Int → Int) : ∀ (n : Nat) (x : Mo), x.told <+: (play l m n x).told
  | 0, _ => List.prefix_refl _
  | n + 1, x => by
    rw [play]
    exact pre_ite ((stp_pre _ _ _).trans (play_pre l m n _)) (List.prefix_refl _)

theorem end_stays {l : List St} {x : Mo} (h : endState l x ≠ 5) : ¬ (x.fin = 0 ∧ x.pc < l.length) := by
  rintro ⟨h1, h2⟩
  exact h (by rw [endState, if_pos h1, if_neg (by omega)])

/- maps as lists -/
def ltK (a b : Int × Int) : Prop := a.1 < b.1

theorem adj_lt {l : List (Int × Int)} (h : ∀ i, i < l.length → goodP l i = true) {i j : Nat} (hij : i < j) (hj : j < l.length) : (l.getD i pz).1 < (l.getD j pz).1 := by
  induction j with
  | zero => omega
  | succ j ih =>
    have hg := h (j + 1) hj
    simp only [goodP, Bool.and_eq_true, Bool.or_eq_true, decide_eq_true_eq, Nat.add_sub_cancel] at hg
    have h1 : (l.getD j pz).1 < (l.getD (j + 1) pz).1 := by
      rcases hg.2 with e | e
      · omega
      · exact e
    by_cases hij' : i = j
    · subst hij'; exact h1
    · have := ih (by omega) (by omega); omega

theorem mapB_pair {l : List (Int × Int)} (h : mapB l = true) : (∀ p ∈ l, (0 ≤ p.1 ∧ p.1 ≤ 15) ∧ 0 ≤ p.2 ∧ p.2 ≤ 9999) ∧ l.Pairwise ltK := by
  rw [mapB_eq, List.all_eq_true] at h
  have h' : ∀ i, i < l.length → goodP l i = true := fun i hi => h i (List.mem_range.2 hi)
  refine ⟨fun p hp => ?_, ?_⟩
  · obtain ⟨i, hi, rfl⟩ := List.getElem_of_mem hp
    have hg := h' i hi
    have e : l.getD i pz = l[i] := by simp [List.getD, hi]
    simp only [goodP, Bool.and_eq_true, decide_eq_true_eq, e, keyB] at hg
    exact ⟨hg.1.1, hg.1.2⟩
  · rw [List.pairwise_iff_getElem]
    intro i j hi hj hij
    have := adj_lt h' hij hj
    simpa [ltK, List.getD, hi, hj] using this

theorem pair_mapB {l : List (Int × Int)} (h : ∀ p ∈ l, (0 ≤ p.1 ∧ p.1 ≤ 15) ∧ 0 ≤ p.2 ∧ p.2 ≤ 9999) (hs : l.Pairwise ltK) : mapB l = true := by
  rw [mapB_eq, List.all_eq_true]
  intro i hi
  have hi := List.mem_range.1 hi
  have e : l.getD i pz = l[i] := by simp [List.getD, hi]
  have hm := h l[i] (List.getElem_mem _)
  simp only [goodP, Bool.and_eq_true, Bool.or_eq_true, decide_eq_true_eq, e, keyB]
  refine ⟨⟨hm.1, hm.2⟩, ?_⟩
  by_cases h0 : i = 0
  · exact Or.inl h0
  · refine Or.inr ?_
    have hi' : i - 1 < l.length := by omega
    have e' : l.getD (i - 1) pz = l[i - 1] := by simp [List.getD, hi']
    rw [e']
    exact (List.pairwise_iff_getElem.1 hs) (i - 1) i hi' hi (by omega)

theorem mapB_wo {l : List (Int × Int)} (h : mapB l = true) (k : Int) : mapB (wo k l) = true := by
  obtain ⟨h1, h2⟩ := mapB_pair h
  exact pair_mapB (fun p hp => h1 p ((List.mem_filter.1 hp).1)) (h2.filter _)

theorem acc_mem {f : Int → Int} {n : Nat} {p : Int × Int} : p ∈ accL f n ↔ 0 ≤ p.1 ∧ p.1 < n ∧ 0 ≤ f p.1 ∧ p.2 = f p.1 := by
  simp only [accL, List.mem_filterMap, List.mem_range]
  constructor
  · rintro ⟨k, hk, e⟩
    split at e
    · rename_i hf
      injection e with e
      subst e
      exact ⟨by simp, by simpa using hk, hf, rfl⟩
    · cases e
  · rintro ⟨h0, h1, h2, h3⟩
    refine ⟨p.1.toNat, by omega, ?_⟩
    have e : ((p.1.toNat : Nat) : Int) = p.1 := by omega
    rw [e, if_pos h2, ← h3]

theorem acc_sorted (f : Int → Int) : ∀ n, (accL f n).Pairwise ltK
  | 0 => by simp [accL]
  | n + 1 => by
    rw [accL_succ, List.pairwise_append]
    refine ⟨acc_sorted f n, by split <;> simp, fun a ha b hb => ?_⟩
    have h1 := (acc_mem.1 ha).2.1
    split at hb
    · simp at hb; subst hb; exact h1
    · simp at hb

theorem acc_mapB {f : Int → Int} {n : Nat} (hn : n ≤ 16) (hf : ∀ k, f k ≤ 9999) : mapB (accL f n) = true := by
  refine pair_mapB (fun p hp => ?_) (acc_sorted f n)
  obtain ⟨h1, h2, h3, h4⟩ := acc_mem.1 hp
  have := hf p.1
  exact ⟨⟨h1, by omega⟩, by omega, by omega⟩

theorem sorted_ext : ∀ (a b : List (Int × Int)), a.Pairwise ltK → b.Pairwise ltK → (∀ p, p ∈ a ↔ p ∈ b) → a = b
  | [], [], _, _, _ => rfl
  | [], q :: s, _, _, h => absurd ((h q).2 (by simp)) (by simp)
  | p :: r, [], _, _, h => absurd ((h p).1 (by simp)) (by simp)
  | p :: r, q :: s, ha, hb, h => by
    obtain ⟨ha1, ha2⟩ := List.pairwise_cons.1 ha
    obtain ⟨hb1, hb2⟩ := List.pairwise_cons.1 hb
    have e : p = q := by
      rcases List.mem_cons.1 ((h p).1 (by simp)) with e | e
      · exact e
      · rcases List.mem_cons.1 ((h q).2 (by simp)) with e' | e'
        · exact e'.symm
        · have h1 : q.1 < p.1 := hb1 _ e
          have h2 : p.1 < q.1 := ha1 _ e'
          omega
    subst e
    refine congrArg _ (sorted_ext r s ha2 hb2 (fun t => ⟨fun ht => ?_, fun ht => ?_⟩))
    · rcases List.mem_cons.1 ((h t).1 (by simp [ht])) with e | e
      · subst e; have h1 : t.1 < t.1 := ha1 _ ht; omega
      · exact e
    · rcases List.mem_cons.1 ((h t).2 (by simp [ht])) with e | e
      · subst e; have h1 : t.1 < t.1 := hb1 _ ht; omega
      · exact e

/-- the value of a key in a sorted list -/
theorem vIn_mem : ∀ {l : List (Int × Int)}, l.Pairwise ltK → ∀ {p : Int × Int}, p ∈ l → vIn l p.1 = p.2
  | q :: r, h, p, hp => by
    obtain ⟨h1, h2⟩ := List.pairwise_cons.1 h
    rw [vIn]
    rcases List.mem_cons.1 hp with e | e
    · subst e; rw [if_pos rfl]
    · have : q.1 < p.1 := h1 _ e
      rw [if_neg (by omega)]
      exact vIn_mem h2 e
theorem vIn_out : ∀ {l : List (Int × Int)} {k : Int}, (∀ p ∈ l, p.1 ≠ k) → vIn l k = -1
  | [], _, _ => rfl
  | q :: r, k, h => by rw [vIn, if_neg (h q (by simp))]; exact vIn_out (fun p hp => h p (by simp [hp]))
theorem vIn_cases (l : List (Int × Int)) (k : Int) : (∃ p ∈ l, p.1 = k) ∨ ∀ p ∈ l, p.1 ≠ k := by
  by_cases h : ∃ p ∈ l, p.1 = k
  · exact Or.inl h
  · exact Or.inr (fun p hp e => h ⟨p, hp, e⟩)

theorem listOf_vIn {ml : List (Int × Int)} (h : mapB ml = true) : listOf (vIn ml) = ml := by
  obtain ⟨h1, h2⟩ := mapB_pair h
  rw [listOf_acc]
  refine sorted_ext _ _ (acc_sorted _ _) h2 (fun p => ?_)
  rw [acc_mem]
  constructor
  · rintro ⟨k0, k1, k2, k3⟩
    rcases vIn_cases ml p.1 with ⟨q, hq, e⟩ | hn
    · have := vIn_mem h2 hq
      rw [e] at this
      have e2 : p = q := Prod.ext e.symm (by rw [k3, this])
      rw [e2]; exact hq
    · rw [vIn_out hn] at k2; omega
  · intro hp
    have := h1 p hp
    have e := vIn_mem h2 hp
    exact ⟨this.1.1, by omega, by omega, e.symm⟩

theorem vIn_acc (f : Int → Int) (n : Nat) (k : Int) : vIn (accL f n) k = if 0 ≤ k ∧ k < n ∧ 0 ≤ f k then f k else -1 := by
  by_cases h : 0 ≤ k ∧ k < n ∧ 0 ≤ f k
  · rw [if_pos h]
    exact vIn_mem (p := (k, f k)) (acc_sorted f n) (acc_mem.2 ⟨h.1, h.2.1, h.2.2, rfl⟩)
  · rw [if_neg h]
    refine vIn_out (fun p hp e => h ?_)
    obtain ⟨h1, h2, h3, _⟩ := acc_mem.1 hp
    rw [e] at h1 h2 h3
    exact ⟨h1, h2, h3⟩

theorem vIn_wo {ml : List (Int × Int)} (h : mapB ml = true) (k j : Int) : vIn (wo k ml) j = if j = k then -1 else vIn ml j := by
  obtain ⟨h1, h2⟩ := mapB_pair h
  by_cases e : j = k
  · rw [if_pos e]
    refine vIn_out (fun p hp hj => ?_)
    have := (List.mem_filter.1 hp).2
    simp at this
    exact this (by rw [hj, e])
  · rw [if_neg e]
    rcases vIn_cases ml j with ⟨p, hp, rfl⟩ | hn
    · rw [vIn_mem h2 hp]
      exact vIn_mem (h2.filter _) (List.mem_filter.2 ⟨hp, by simpa using e⟩)
    · rw [vIn_out hn]
      exact vIn_out (fun p hp => hn p ((List.mem_filter.1 hp).1))

theorem vIn_ge {ml : List (Int × Int)} (h : mapB ml = true) (k : Int) : -1 ≤ vIn ml k := by
  rcases vIn_cases ml k with ⟨p, hp, rfl⟩ | hn
  · have := (mapB_pair h).1 p hp
    rw [vIn_mem (mapB_pair h).2 hp]; omega
  · rw [vIn_out hn]; omega

theorem wo_acc {f g : Int → Int} {k : Int} (h : ∀ j, j ≠ k → f j = g j) (n : Nat) : wo k (accL f n) = wo k (accL g n) := by
  refine sorted_ext _ _ ((acc_sorted f n).filter _) ((acc_sorted g n).filter _) (fun p => ?_)
  simp only [wo, List.mem_filter, acc_mem, decide_eq_true_eq]
  constructor
  · rintro ⟨⟨h1, h2, h3, h4⟩, h5⟩
    have := h p.1 h5
    exact ⟨⟨h1, h2, by omega, by omega⟩, h5⟩
  · rintro ⟨⟨h1, h2, h3, h4⟩, h5⟩
    have := h p.1 h5
    exact ⟨⟨h1, h2, by omega, by omega⟩, h5⟩

theorem mapL_good (l : List Int) : mapB (mapL l) = true := by
  refine acc_mapB (Nat.min_le_left _ _) (fun k => ?_)
  have := pickI_hi (l.getD k.toNat 0) (n := 10001) (by omega)
  unfold valF
  omega

end Go.Proofs.Ytlbmcdoldnajoaa

/- pivotkeep's 'first' and 'plain': the job of which all is known. -/
namespace Go.Proofs.Ytlbmcdoldnajoaa
open Go.RowKit

def fL : List St := [⟨1, 0, 7, 0⟩, ⟨3, 3, 0, 0⟩, ⟨11, 0, 0, 0⟩]
theorem f_e0 : runErr fL [] 3 = 0 := by decide
theorem f_e1 : runSt fL [] 3 = 3 := by decide
theorem f_e2 : runTold fL [] 3 = [7] := by decide
theorem f_e3 : runMap fL [] 3 = [(3, 7)] := by decide

set_option maxRecDepth 100000 in
set_option maxHeartbeats 1000000 in
theorem first_any (w : World) :
    Calls Try.prog 64 #[] w fun e w' => ∃ b, e = .returned (.slice (some ⟨b, 0, none⟩) 3 3) ∧ StepsV w' (.slice (some ⟨b, 0, none⟩) 3 3) fL ∧ Below w.heap.size w w' := by
  go_enter Try.func64, Try.ntmps64
  go_wp2
  go_ret
  exact ⟨w.heap.size, rfl, stepsV_blk (heap_alloc_new _ _) _ rfl, (Below.refl _ _).alloc (Nat.le_refl _) _⟩

set_option maxRecDepth 100000 in
set_option maxHeartbeats 1000000 in
theorem ended_any (st tr er : Int) (tv : Value) (w : World) (htv : ∃ ao n cap, tv = .slice ao n cap) :
    Calls Try.prog 27 #[.agg #[.int .i64 st, tv, .int .i64 tr], .int .i64 er] w fun e w' => e = .returned (.bool (decide (er = 0) && decide (tr = 1) && (decide (st = 3) || decide (st = 4) || decide (st = 5)))) ∧ Below w.heap.size w w' := by
  obtain ⟨ao, n, cap, rfl⟩ := htv
  rcases (show (¬ er = 0) ∨ (er = 0 ∧ ¬ tr = 1) ∨ (er = 0 ∧ tr = 1 ∧ st = 3) ∨ (er = 0 ∧ tr = 1 ∧ ¬ st = 3 ∧ st = 4) ∨ (er = 0 ∧ tr = 1 ∧ ¬ st = 3 ∧ ¬ st = 4 ∧ st = 5) ∨ (er = 0 ∧ tr = 1 ∧ ¬ st = 3 ∧ ¬ st = 4 ∧ ¬ st = 5) from by omega) with k | ⟨rfl, k⟩ | ⟨rfl, rfl, rfl⟩ | ⟨rfl, rfl, k, rfl⟩ | ⟨rfl, rfl, k, k', rfl⟩ | ⟨rfl, rfl, k, k', k''⟩
  all_goals
    go_enter Try.func27, Try.ntmps27
    go_wp2
    go_ret
    refine ⟨ret_bool ?_, (Below.refl _ _).alloc (Nat.le_refl _) _⟩
    simp [*]

end Go.Proofs.Ytlbmcdoldnajoaa

/- pivotkeep's 'plain'. -/
namespace Go.Proofs.Ytlbmcdoldnajoaa
open Go.RowKit

theorem owns_some {w : World} {B : Nat} {e : TypeId} {s : Nat} {v : Value} {n : Nat} {xs : List Value} (h : w.ownsRow B e s v n xs) (hn : 0 < n) : ∃ g cap, v = .slice (some ⟨g, 0, none⟩) n cap ∧ g < w.heap.size := by
  rcases h.2 with ⟨_, h0⟩ | ⟨g, cap, cur, rfl, _, hh, _⟩
  · omega
  · exact ⟨g, cap, rfl, blk_lt hh⟩

set_option maxRecDepth 100000 in
set_option maxHeartbeats 4000000 in
theorem plain_any (hrun : RunOK) (w : World) :
    Calls Try.prog 23 #[] w fun e w' => e = .returned (.bool true) ∧ Below w.heap.size w w' := by
  have HR : Hid RunOK := hrun
  clear hrun
  go_enter Try.func23, Try.ntmps23
  go_wp2_with fail
  refine (first_any w).mono ?_
  rintro e X ⟨b, rfl, hs, hb⟩
  have HS : Hid (StepsV X (.slice (some ⟨b, 0, none⟩) 3 3) fL) := hs
  have HB : Hid (Below w.heap.size w X) := hb
  clear hs hb
  go_wp2_with fail
  refine (HR.out _ _ fL [] 3 X HS.out (pairsV_nil _ _)).mono ?_
  rintro e W1 ⟨tv, av, rfl, h1, h2, h3⟩
  rw [f_e2] at h1
  rw [f_e3] at h2
  have e4 : runTries fL [] 3 = 1 := by simp [runTries, f_e0]
  rw [f_e0, f_e1, e4]
  have h1' : W1.ownsRow X.heap.size 3 1 tv 1 [.int .i64 7] := h1
  have h2' : W1.ownsRow X.heap.size 42 2 av 1 [.int .i64 3, .int .i64 7] := h2
  obtain ⟨gt, tc, rfl, lt⟩ := owns_some h1' (by omega)
  obtain ⟨ga, ac, rfl, la⟩ := owns_some h2' (by omega)
  have t0 : W1.cell? ⟨gt, 0, none⟩ = some (.int .i64 7) := by rw [h1'.cellAt 0 (by omega)]; rfl
  have a0 : W1.cell? ⟨ga, 0, none⟩ = some (.int .i64 3) := by rw [h2'.cellAt 0 (by omega)]; rfl
  have a1 : W1.cell? ⟨ga, 1, none⟩ = some (.int .i64 7) := by rw [h2'.cellAt 1 (by omega)]; rfl
  have H3 : Hid (Below X.heap.size X W1) := h3
  clear h1 h2 h1' h2' h3 e4
  go_wp2_with fail
  refine name_calls (p := fun Y => Below W1.heap.size W1 Y ∧ Y.heap[W1.heap.size]? = some (.cells #[.int .i64 3, .slice (some ⟨gt, 0, none⟩) 1 tc, .int .i64 1] 44 (0, 0))) ⟨(Below.refl _ _).alloc (Nat.le_refl _) _, heap_alloc_new _ _⟩ ?_
  rintro Y ⟨y1, y2⟩
  have hlt := blk_lt y2
  refine (ended_any _ _ _ _ Y ⟨_, _, _, rfl⟩).mono ?_
  rintro e Z ⟨rfl, b1⟩
  have hz1 := y1.size
  have hz2 := b1.size
  have c0 : Z.cell? ⟨W1.heap.size, 0, none⟩ = some (.int .i64 3) := by rw [b1.cell (show W1.heap.size < _ from hlt), blk_cell y2]; rfl
  have c1 : Z.cell? ⟨W1.heap.size, 1, none⟩ = some (.slice (some ⟨gt, 0, none⟩) 1 tc) := by rw [b1.cell (show W1.heap.size < _ from hlt), blk_cell y2]; rfl
  have d0 : Z.cell? ⟨gt, 0, none⟩ = some (.int .i64 7) := by rw [b1.cell (show gt < _ from by omega), y1.cell (show gt < _ from lt)]; exact t0
  have d1 : Z.cell? ⟨ga, 0, none⟩ = some (.int .i64 3) := by rw [b1.cell (show ga < _ from by omega), y1.cell (show ga < _ from la)]; exact a0
  have d2 : Z.cell? ⟨ga, 1, none⟩ = some (.int .i64 7) := by rw [b1.cell (show ga < _ from by omega), y1.cell (show ga < _ from la)]; exact a1
  have HE : Hid (Below w.heap.size w Z) := by
    have s := HB.out.size
    have s2 := H3.out.size
    exact ((HB.out.trans (H3.out.mono s)).trans (y1.mono (by omega))).trans (b1.mono (by omega))
  clear t0 a0 a1 y1 y2 b1
  go_wp2
  go_ret
  exact ⟨rfl, HE.out⟩

end Go.Proofs.Ytlbmcdoldnajoaa

/- What Framed and Longer share: facts that stay; the job and the map that numbers speak of; the runs' plain facts. -/
namespace Go.Proofs.Ytlbmcdoldnajoaa
open Go.RowKit

/-- a fact that later calls leave true -/
structure Kp (P : World → Prop) (W : World) : Prop where
  stay : ∀ U V, P U → Below U.heap.size U V → P V
  now : P W

theorem Kp.next {P : World → Prop} {W W' : World} (h : Kp P W) (hb : Below W.heap.size W W') : Kp P W' := ⟨h.stay, h.stay _ _ h.now hb⟩
theorem Kp.and {P Q : World → Prop} {W : World} (h : Kp P W) (k : Kp Q W) : Kp (fun W => P W ∧ Q W) W := ⟨fun U V hp hb => ⟨h.stay U V hp.1 hb, k.stay U V hp.2 hb⟩, h.now, k.now⟩
theorem kp_steps {v : Value} {l : List St} {W : World} (h : StepsV W v l) : Kp (fun W => StepsV W v l) W := ⟨fun _ _ h hb => h.below hb, h⟩
theorem kp_ints {v : Value} {l : List Int} {W : World} (h : IntsV W v l) : Kp (fun W => IntsV W v l) W := ⟨fun _ _ h hb => h.below hb, h⟩
theorem kp_pairs {v : Value} {l : List (Int × Int)} {W : World} (h : PairsV W W.heap.size v l) : Kp (fun W => PairsV W W.heap.size v l) W := ⟨fun _ _ h hb => PairsV.wide (h.below hb (Nat.le_refl _)) hb.size, h⟩
theorem kp_below {w W : World} (h : Below w.heap.size w W) : Kp (fun W => Below w.heap.size w W) W := ⟨fun _ _ h hb => h.trans (hb.mono h.size), h⟩
theorem kp_blk {b : Nat} {o : Obj} {W : World} (h : W.heap[b]? = some o) : Kp (fun W => W.heap[b]? = some o) W := ⟨fun _ _ h hb => (hb.block _ (blk_lt h)).trans h, h⟩

theorem stepsV_own {w : World} {B : Nat} {v : Value} {l : List St} (h : w.ownsRow B 40 4 v l.length (stCells l)) : StepsV w v l := by
  rcases h.2 with ⟨rfl, h0⟩ | ⟨g, cap, cur, rfl, _, hh, h1, _, h2, h3⟩
  · obtain rfl : l = [] := List.eq_nil_of_length_eq_zero h0
    exact ⟨none, 0, rfl, Or.inl rfl⟩
  · refine ⟨_, cap, rfl, Or.inr ⟨g, 0, rfl, blk_lt hh, stepsAt_of_row (rest := cur.toList.drop (l.length * 4)) (t := 40) (fr := (0, 0)) ?_⟩⟩
    rw [hh, ← h3, List.take_append_drop]

theorem named_none (ao : Option Addr) (k : Int) (cap : Nat) (w : World) :
    Calls Try.prog 28 #[.slice ao 0 cap, .int .i64 k] w fun e w' => e = .returned (.bool false) ∧ Below w.heap.size w w' := by
  go_enter Try.func28, Try.ntmps28
  go_wp2
  go_loop [5] (fun i => i = .int .i64 0) (fun _ => 0)
  case atStart => rfl
  case round =>
    subst hrel
    go_wp2
    go_ret
    exact ⟨rfl, Below.refl _ _⟩
theorem named_any (v : Value) (l : List St) (k : Int) (w : World) (hl : l.length ≤ 1000) (h : StepsV w v l) :
    Calls Try.prog 28 #[v, .int .i64 k] w fun e w' => e = .returned (.bool (namedB l k)) ∧ Below w.heap.size w w' := by
  obtain ⟨ao, cap, rfl, h⟩ := h
  rcases h with rfl | ⟨b, off, rfl, hb, hs⟩
  · exact named_none ao k cap w
  · exact named_at l k b off cap _ w hb rfl hl hs

theorem mkSt_ok (x0 x1 x2 x3 : Int) (i n : Nat) : stB (mkSt x0 x1 x2 x3 i n 0 16) i n = true := by
  have a1 := pickI_lo x0 (n := 12) (by omega)
  have a2 := pickI_hi x0 (n := 12) (by omega)
  have b1 := pickI_lo x1 (n := 4) (by omega)
  have b2 := pickI_hi x1 (n := 4) (by omega)
  have c1 := pickI_lo x2 (n := 16) (by omega)
  have c2 := pickI_hi x2 (n := 16) (by omega)
  have d1 := pickI_lo x3 (n := 16) (by omega)
  have d2 := pickI_hi x3 (n := 16) (by omega)
  have e1 := pickI_lo x2 (n := 1000) (by omega)
  have e2 := pickI_hi x2 (n := 1000) (by omega)
  have f1 := pickI_lo x2 (n := 4) (by omega)
  have f2 := pickI_hi x2 (n := 4) (by omega)
  unfold mkSt
  simp only
  generalize pickI x0 12 = y at *
  rcases (show y = 0 ∨ y = 1 ∨ y = 2 ∨ y = 3 ∨ y = 4 ∨ y = 5 ∨ y = 6 ∨ y = 7 ∨ y = 8 ∨ y = 9 ∨ y = 10 ∨ y = 11 by omega) with rfl | rfl | rfl | rfl | rfl | rfl | rfl | rfl | rfl | rfl | rfl | rfl
  · simp [stB, stepB, regB, inB]; omega
  · simp [stB, stepB, regB, keyB]; omega
  · simp [stB, stepB, regB, keyB]; omega
  · simp [stB, stepB, keyB]; omega
  · simp; split <;> (simp [stB, stepB, regB, keyB]; omega)
  · simp; split <;> (simp [stB, stepB, regB, keyB]; omega)
  · simp [stB, stepB, regB]; omega
  · simp [stB, stepB, regB]; omega
  · simp
    split
    · simp [stB, stepB, regB]; omega
    · have g1 := pickI_lo x2 (n := (n : Int) - i - 1) (by omega)
      have g2 := pickI_hi x2 (n := (n : Int) - i - 1) (by omega)
      simp [stB, stepB, regB, inB]; omega
  · simp
    split
    · simp [stB, stepB, regB]; omega
    · have g1 := pickI_lo x2 (n := (i : Int)) (by omega)
      have g2 := pickI_hi x2 (n := (i : Int)) (by omega)
      simp [stB, stepB, regB, inB]; omega
  · simp [stB, stepB, regB]; omega
  · simp [stB, stepB]

theorem mkL_len (xs : List Int) (lo kn : Int) : (mkL xs lo kn).length = mkN xs := mkT_len _ _ _ _ _
theorem mkL_job (xs : List Int) : jobB (mkL xs 0 16) = true := by
  have hl := mkL_len xs 0 16
  have h32 : mkN xs ≤ 32 := Nat.min_le_left _ _
  simp only [jobB, Bool.and_eq_true, decide_eq_true_eq, List.all_eq_true, List.mem_range]
  refine ⟨by omega, fun i hi => ?_⟩
  rw [hl] at hi ⊢
  have e : (mkL xs 0 16).getD i stz = stAtL xs (mkN xs) 0 16 i := by simp [mkL, mkT, List.getD, hi]
  rw [e]
  exact mkSt_ok _ _ _ _ i (mkN xs)
theorem mapL_len (xs : List Int) : (mapL xs).length ≤ 16 := Nat.le_trans (accL_len _ _) (Nat.min_le_left _ _)

theorem endState_in {l : List St} {x : Mo} (h : x.fin = 0 ∨ x.fin = 4 ∨ x.fin = 5) : (decide (endState l x = 3) || decide (endState l x = 4) || decide (endState l x = 5)) = true := by
  unfold endState
  split
  · split <;> decide
  · rcases h with h | h | h
    · contradiction
    · rw [h]; decide
    · rw [h]; decide

/-- all that a good run hands back, plainly -/
theorem run_facts {l : List St} {ml : List (Int × Int)} {f : Int} (hj : jobB l = true) (hm : mapB ml = true) (h1 : 1 ≤ f) (h2 : f ≤ 200) :
    runErr l ml f = 0 ∧ runTries l ml f = 1 ∧ runSt l ml f = endState l (runMo l ml f) ∧ runTold l ml f = (runMo l ml f).told ∧ runMap l ml f = listOf (mapAfter l (vIn ml) (runMo l ml f)) := by
  have h := runErr_ok (l := l) (ml := ml) hj hm h1 h2
  simp [runTries, runSt, runTold, runMap, h]
/-- a key that no step names -/
theorem framed_facts {l : List St} {ml : List (Int × Int)} {f k : Int} (hj : jobB l = true) (hm : mapB ml = true) (h1 : 1 ≤ f) (h2 : f ≤ 200) (hk : 0 ≤ k) (hk' : k ≤ 15) (hn : namedB l k = false) :
    runTold l ml f = runTold l (wo k ml) f ∧ runSt l ml f = runSt l (wo k ml) f ∧ wo k (runMap l ml f) = wo k (runMap l (wo k ml) f) ∧ vIn (runMap l ml f) k = vIn ml k ∧ vIn (runMap l (wo k ml) f) k = -1 := by
  have hm2 := mapB_wo hm k
  obtain ⟨_, _, e3, e4, e5⟩ := run_facts hj hm h1 h2
  obtain ⟨_, _, d3, d4, d5⟩ := run_facts hj hm2 h1 h2
  have hag : ∀ j, j ≠ k → vIn ml j = vIn (wo k ml) j := fun j hjk => by rw [vIn_wo hm, if_neg hjk]
  have hmo : runMo l ml f = runMo l (wo k ml) f := play_congr hn hag _ _
  have hpk : (runMo l ml f).puts k = none := play_puts hn _ _
  rw [e3, e4, e5, d3, d4, d5, ← hmo]
  have hma : ∀ j, j ≠ k → mapAfter l (vIn ml) (runMo l ml f) j = mapAfter l (vIn (wo k ml)) (runMo l ml f) j := fun j hjk => by
    unfold mapAfter
    split
    · exact see_congr hag _ hjk
    · exact hag j hjk
  have hmk : ∀ m : Int → Int, mapAfter l m (runMo l ml f) k = m k := fun m => by
    unfold mapAfter
    split
    · simp [see, hpk]
    · rfl
  refine ⟨rfl, rfl, ?_, ?_, ?_⟩
  · rw [listOf_acc, listOf_acc]; exact wo_acc hma 16
  · rw [listOf_acc, vIn_acc, hmk]
    have := vIn_ge hm k
    split
    · rfl
    · omega
  · rw [listOf_acc, vIn_acc, hmk, vIn_wo hm, if_pos rfl, if_neg (by omega)]

/-- more fuel -/
theorem longer_facts {l : List St} {ml : List (Int × Int)} {f g : Int} (hj : jobB l = true) (hm : mapB ml = true) (h1 : 1 ≤ f) (h2 : f ≤ g) (h3 : g ≤ 200) :
    runTold l ml f <+: runTold l ml g ∧ (runSt l ml f ≠ 3 → runMap l ml f = ml) ∧ (runSt l ml f ≠ 5 → runTold l ml f = runTold l ml g ∧ runSt l ml f = runSt l ml g ∧ runMap l ml f = runMap l ml g) := by
  obtain ⟨_, _, e3, e4, e5⟩ := run_facts hj hm h1 (show f ≤ 200 by omega)
  obtain ⟨_, _, d3, d4, d5⟩ := run_facts hj hm (show 1 ≤ g by omega) h3
  have hadd : runMo l ml g = play l (vIn ml) (g - f).toNat (runMo l ml f) := by
    unfold runMo
    rw [← play_add, show f.toNat + (g - f).toNat = g.toNat by omega]
  rw [e3, e4, e5, d3, d4, d5]
  refine ⟨by rw [hadd]; exact play_pre _ _ _ _, fun hne => ?_, fun hne => ?_⟩
  · rw [mapAfter, if_neg hne]; exact listOf_vIn hm
  · have : runMo l ml g = runMo l ml f := by rw [hadd, play_end (end_stays hne)]
    rw [this]
    exact ⟨rfl, rfl, rfl⟩

/-- the length of a list that came in is within its room -/
theorem open_room {H : Type} {enc : TypeId × Value → H} {w : World} {base : Nat} {spare : Nat → Bool} {held : Bool} {t e : TypeId} {fuel : Nat} {v : Value} {x : DataW H × List MemPlace} (ht : Try.prog.underlying t = some (.slice e)) (h : DataW.trod enc Try.prog w base spare held fuel t [v] = some x) :
    ∀ ao n cap, v = .slice ao n cap → n ≤ cap := by
  intro ao n cap hv
  rcases Go.Deep.open_slice ht h with ⟨hc, _⟩ | ⟨a, len, cap', m, n', D, Pl, hc, hb, hl, hm, hmm, hx, hall⟩
  · rw [hv] at hc; simp at hc; omega
  · rw [hv] at hc; simp at hc; omega

/-- a state in which a run has ended -/
def EndB (st : Int) : Bool := decide (st = 3) || decide (st = 4) || decide (st = 5)
theorem ended_true (st : Int) (tv : Value) (w : World) (htv : ∃ ao n cap, tv = .slice ao n cap) (h : EndB st = true) :
    Calls Try.prog 27 #[.agg #[.int .i64 st, tv, .int .i64 1], .int .i64 0] w fun e w' => e = .returned (.bool true) ∧ Below w.heap.size w w' := by
  refine (ended_any st 1 0 tv w htv).mono fun e w' hh => ⟨hh.1.trans (ret_bool ?_), hh.2⟩
  have : (decide (st = 3) || decide (st = 4) || decide (st = 5)) = true := h
  rw [this]; rfl
theorem run_endB {l : List St} {ml : List (Int × Int)} {f : Int} (hj : jobB l = true) (hm : mapB ml = true) (h1 : 1 ≤ f) (h2 : f ≤ 200) : EndB (runSt l ml f) = true := by
  obtain ⟨_, _, e3, _, _⟩ := run_facts hj hm h1 h2
  rw [e3]
  exact endState_in (play_fin _ _ _ _ (Or.inl rfl))

/-- what is held behind a run: the job, the map, what came out -/
structure FA (w : World) (sv mv tv av : Value) (l : List St) (ml al : List (Int × Int)) (tl : List Int) (b : Nat) (st : Int) (W : World) : Prop where
  steps : StepsV W sv l
  pairs : PairsV W W.heap.size mv ml
  told : IntsV W tv tl
  after : PairsV W W.heap.size av al
  box : W.heap[b]? = some (.cells #[.int .i64 st, tv, .int .i64 1] 44 (0, 0))
  bel : Below w.heap.size w W
theorem FA.next {w : World} {sv mv tv av : Value} {l : List St} {ml al : List (Int × Int)} {tl : List Int} {b : Nat} {st : Int} {W W' : World} (h : FA w sv mv tv av l ml al tl b st W) (hb : Below W.heap.size W W') : FA w sv mv tv av l ml al tl b st W' :=
  ⟨h.steps.below hb, PairsV.wide (h.pairs.below hb (Nat.le_refl _)) hb.size, h.told.below hb, PairsV.wide (h.after.below hb (Nat.le_refl _)) hb.size, (hb.block _ (blk_lt h.box)).trans h.box, h.bel.trans (hb.mono h.bel.size)⟩
theorem FA.cells {w : World} {sv mv tv av : Value} {l : List St} {ml al : List (Int × Int)} {tl : List Int} {b : Nat} {st : Int} {W : World} (h : FA w sv mv tv av l ml al tl b st W) : W.cell? ⟨b, 0, none⟩ = some (.int .i64 st) ∧ W.cell? ⟨b, 1, none⟩ = some tv ∧ W.cell? ⟨b, 2, none⟩ = some (.int .i64 1) :=
  ⟨by rw [blk_cell h.box]; rfl, by rw [blk_cell h.box]; rfl, by rw [blk_cell h.box]; rfl⟩

end Go.Proofs.Ytlbmcdoldnajoaa
