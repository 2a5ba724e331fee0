import Derived.Test.YtlbmcdoldnajoabDoesLaw
import Derived.Test.YtlbmcdoldnajoabFrA
import Derived.Test.YtlbmcdoldnajoabDeskM

namespace Go.Proofs.Ytlbmcdoldnajoab
/-- N attempts, numbered by when they were found good: how many were good when each began; what it read; what it wrote; none was CLASH, PIVOT or OUTER -/
structure GoodOrd (N : Nat) (beg : Nat → Nat) (R W : Nat → Nat → Bool) : Prop where
  begle : ∀ t, t < N → beg t ≤ t
  clash : ∀ t u, t < N → u < t → beg t ≤ u → ∀ k, ¬ (W u k = true ∧ W t k = true)
  pivot : ∀ t v u, t < N → v ≤ u → u < t → beg t ≤ v → ∀ k k', ¬ (W v k = true ∧ R t k = true ∧ R u k' = true ∧ W t k' = true)
  outer : ∀ t u v, t < N → u < t → beg t ≤ u → v < u → beg u ≤ v → ∀ k k', W u k = true → R t k = true → W v k' = true → R u k' = true → (∃ j, W t j = true) ∨ v < beg t → False
/-- i must stand ahead of j -/
def Ahead (beg : Nat → Nat) (R W : Nat → Nat → Bool) (i j : Nat) : Prop :=
  i ≠ j ∧ ((i < j ∧ ∃ k, W i k = true ∧ W j k = true) ∨ (i < beg j ∧ ∃ k, W i k = true ∧ R j k = true) ∨ (beg i ≤ j ∧ ∃ k, R i k = true ∧ W j k = true))
theorem least_of (S : Nat → Prop) : ∀ n, S n → ∃ m, S m ∧ ∀ i, S i → m ≤ i := by
  intro n
  induction n using Nat.strongRecOn with
  | ind n ih =>
    intro hn
    by_cases h : ∃ m, m < n ∧ S m
    · obtain ⟨m, hm, hs⟩ := h
      exact ih m hm hs
    · exact ⟨n, hn, fun i hi => Nat.le_of_not_lt (fun hlt => h ⟨i, hlt, hi⟩)⟩
/-- among any of them there is one that need stand behind none of the others -/
theorem source {N : Nat} {beg : Nat → Nat} {R W : Nat → Nat → Bool} (h : GoodOrd N beg R W) (S : Nat → Prop) (hS : ∀ i, S i → i < N) (hne : ∃ i, S i) : ∃ i, S i ∧ ∀ j, S j → ¬ Ahead beg R W j i := by
  refine Classical.byContradiction fun hno => ?_
  have hpred : ∀ i, S i → ∃ j, S j ∧ Ahead beg R W j i := fun i hi => Classical.byContradiction fun hc => hno ⟨i, hi, fun j hj ha => hc ⟨j, hj, ha⟩⟩
  obtain ⟨n, hn⟩ := hne
  obtain ⟨v, hv, hmin⟩ := least_of S n hn
  obtain ⟨u, hu, huv, hU⟩ := hpred v hv
  have hvu : v < u := by have := hmin u hu; omega
  have hbv := h.begle v (hS v hv)
  -- u read past v
  obtain ⟨hb, k, hk1, hk2⟩ : beg u ≤ v ∧ ∃ k, R u k = true ∧ W v k = true := by
    rcases hU with ⟨h1, _⟩ | ⟨h1, _⟩ | h1
    · omega
    · omega
    · exact h1
  obtain ⟨t, ht, htu, hT⟩ := hpred u hu
  have hvt := hmin t ht
  -- t read past u
  obtain ⟨hb2, k2, hk3, hk4⟩ : beg t ≤ u ∧ ∃ k, R t k = true ∧ W u k = true := by
    rcases hT with ⟨h1, k', h2, h3⟩ | ⟨h1, _⟩ | h1
    · exact absurd ⟨h2, h3⟩ (h.clash u t (hS u hu) h1 (by omega) k')
    · omega
    · exact h1
  by_cases hlt : t < u
  · exact h.pivot u v t (hS u hu) hvt hlt hb k k2 ⟨hk2, hk1, hk3, hk4⟩
  · have hut : u < t := by omega
    refine h.outer t u v (hS t ht) hut hb2 hvu hb k2 k hk4 hk3 hk2 hk1 ?_
    by_cases hw : ∃ j, W t j = true
    · exact Or.inl hw
    · right
      obtain ⟨s, hs, hst, hSs⟩ := hpred t ht
      have hvs := hmin s hs
      rcases hSs with ⟨_, k', _, h3⟩ | ⟨h1, _⟩ | ⟨_, k', _, h3⟩
      · exact absurd ⟨k', h3⟩ hw
      · omega
      · exact absurd ⟨k', h3⟩ hw
/-- there is an order -/
theorem order {N : Nat} {beg : Nat → Nat} {R W : Nat → Nat → Bool} (h : GoodOrd N beg R W) : ∀ (n : Nat) (L : List Nat), L.length = n → L.Nodup → (∀ i ∈ L, i < N) → ∃ σ : List Nat, σ.Perm L ∧ σ.Pairwise (fun a b => ¬ Ahead beg R W b a)
  | 0, L, hn, _, _ => by
    obtain rfl := List.eq_nil_of_length_eq_zero hn
    exact ⟨[], List.Perm.refl _, List.Pairwise.nil⟩
  | n + 1, L, hn, hd, hL => by
    have hne : ∃ i, i ∈ L := by
      cases L with
      | nil => simp at hn
      | cons a r => exact ⟨a, by simp⟩
    obtain ⟨i, hi, hsrc⟩ := source h (fun i => i ∈ L) hL hne
    obtain ⟨σ, hp, hw⟩ := order h n (L.erase i) (by rw [List.length_erase_of_mem hi, hn]; rfl) (hd.erase i) (fun j hj => hL j (List.mem_of_mem_erase hj))
    refine ⟨i :: σ, (List.Perm.cons i hp).trans (List.perm_cons_erase hi).symm, List.pairwise_cons.2 ⟨fun b hb => ?_, hw⟩⟩
    exact hsrc b (List.mem_of_mem_erase (hp.mem_iff.1 hb))
/-- the value of a key behind attempts in an order: of the last one that wrote it -/
def valK (P : Nat → Int → Option Int) (k : Int) (v : Int) (τ : List Nat) : Int := τ.foldl (fun v i => (P i k).getD v) v
theorem valK_filter (P : Nat → Int → Option Int) (k : Int) : ∀ (τ : List Nat) (v : Int), valK P k v τ = valK P k v (τ.filter fun i => (P i k).isSome)
  | [], _ => rfl
  | i :: r, v => by
    cases e : P i k with
    | none =>
      rw [List.filter_cons_of_neg (by simp [e])]
      show valK P k ((P i k).getD v) r = _
      rw [e]
      exact valK_filter P k r v
    | some u =>
      rw [List.filter_cons_of_pos (by simp [e])]
      show valK P k ((P i k).getD v) r = valK P k ((P i k).getD v) _
      exact valK_filter P k r _
theorem asc_ext : ∀ (a b : List Nat), a.Pairwise (· < ·) → b.Pairwise (· < ·) → (∀ p, p ∈ a ↔ p ∈ b) → a = b
  | [], [], _, _, _ => rfl
  | [], q :: s, _, _, h => absurd ((h q).2 (by simp)) (by simp)
  | p :: r, [], _, _, h => absurd ((h p).1 (by simp)) (by simp)
  | p :: r, q :: s, ha, hb, h => by
    obtain ⟨ha1, ha2⟩ := List.pairwise_cons.1 ha
    obtain ⟨hb1, hb2⟩ := List.pairwise_cons.1 hb
    have e : p = q := by
      rcases List.mem_cons.1 ((h p).1 (by simp)) with e | e
      · exact e
      · rcases List.mem_cons.1 ((h q).2 (by simp)) with e' | e'
        · exact e'.symm
        · have h1 := hb1 _ e
          have h2 := ha1 _ e'
          omega
    subst e
    refine congrArg _ (asc_ext r s ha2 hb2 (fun t => ⟨fun ht => ?_, fun ht => ?_⟩))
    · rcases List.mem_cons.1 ((h t).1 (by simp [ht])) with e | e
      · subst e; have h1 := ha1 _ ht; omega
      · exact e
    · rcases List.mem_cons.1 ((h t).2 (by simp [ht])) with e | e
      · subst e; have h1 := hb1 _ ht; omega
      · exact e
/-- in that order each attempt finds of what it read what it found; and all together leave what they left -/
theorem order_reads {N : Nat} {beg : Nat → Nat} {R W : Nat → Nat → Bool} (h : GoodOrd N beg R W) {P : Nat → Int → Option Int} (hP : ∀ i (k : Nat), W i k = (P i k).isSome) {σ : List Nat} (hp : σ.Perm (List.range N)) (hw : σ.Pairwise (fun a b => ¬ Ahead beg R W b a)) :
    (∀ (pre post : List Nat) (i : Nat), σ = pre ++ i :: post → ∀ k : Nat, R i k = true → ∀ v, valK P k v pre = valK P k v (List.range (beg i))) ∧ ∀ (k : Nat) v, valK P k v σ = valK P k v (List.range N) := by
  have hmem : ∀ j, j ∈ σ ↔ j < N := fun j => by rw [hp.mem_iff, List.mem_range]
  have hnd : σ.Nodup := hp.nodup_iff.2 List.nodup_range
  have hasc : ∀ (k : Nat) (τ : List Nat), τ.Sublist σ → (τ.filter fun i => (P i k).isSome).Pairwise (· < ·) := fun k τ hτ => by
    have h1 := (hw.sublist hτ).filter (fun i => (P i (k : Int)).isSome)
    have h2 := (hnd.sublist hτ).filter (fun i => (P i (k : Int)).isSome)
    refine (List.Pairwise.and h1 h2).imp_of_mem ?_
    rintro a b ha hb ⟨hab, hne⟩
    have wa : W a k = true := by rw [hP]; exact (List.mem_filter.1 ha).2
    have wb : W b k = true := by rw [hP]; exact (List.mem_filter.1 hb).2
    have hne' : a ≠ b := hne
    refine Nat.lt_of_not_le fun hle => hab ⟨fun e => hne' e.symm, Or.inl ⟨by omega, k, wb, wa⟩⟩
  have hrange : ∀ (k : Nat) n, ((List.range n).filter fun i => (P i (k : Int)).isSome).Pairwise (· < ·) := fun k n => List.Pairwise.filter _ List.pairwise_lt_range
  refine ⟨?_, fun k v => ?_⟩
  · rintro pre post i rfl k hk v
    rw [valK_filter, valK_filter P k (List.range (beg i))]
    have hi : i < N := (hmem i).1 (by simp)
    have e : (pre.filter fun i => (P i (k : Int)).isSome) = (List.range (beg i)).filter fun i => (P i (k : Int)).isSome := by
      refine asc_ext _ _ (hasc k pre (List.sublist_append_left _ _)) (hrange k _) (fun j => ?_)
      simp only [List.mem_filter, List.mem_range]
      obtain ⟨_, hw2, hw3⟩ := List.pairwise_append.1 hw
      obtain ⟨hw4, _⟩ := List.pairwise_cons.1 hw2
      obtain ⟨_, hd2, hd3⟩ := List.nodup_append.1 hnd
      constructor
      · rintro ⟨hj, hs⟩
        refine ⟨?_, hs⟩
        have hne : j ≠ i := hd3 j hj i (by simp)
        have := hw3 j hj i (by simp)
        exact Nat.lt_of_not_le fun hle => this ⟨fun e => hne e.symm, Or.inr (Or.inr ⟨hle, k, hk, by rw [hP]; exact hs⟩)⟩
      · rintro ⟨hj, hs⟩
        refine ⟨?_, hs⟩
        have hb := h.begle i hi
        have hne : j ≠ i := by omega
        have hjm : j ∈ pre ++ i :: post := (hmem j).2 (by omega)
        rcases List.mem_append.1 hjm with hj' | hj'
        · exact hj'
        · rcases List.mem_cons.1 hj' with e | hj'
          · exact absurd e hne
          · exact absurd ⟨hne, Or.inr (Or.inl ⟨hj, k, by rw [hP]; exact hs, hk⟩)⟩ (hw4 j hj')
    rw [e]
  · rw [valK_filter, valK_filter P k (List.range N)]
    have e : (σ.filter fun i => (P i (k : Int)).isSome) = (List.range N).filter fun i => (P i (k : Int)).isSome := by
      refine asc_ext _ _ (hasc k σ (List.Sublist.refl _)) (hrange k _) (fun j => ?_)
      simp only [List.mem_filter, List.mem_range, hmem]
    rw [e]
end Go.Proofs.Ytlbmcdoldnajoab
namespace Go.Proofs.Ytlbmcdoldnajoab
def rdB (l : List Bool) (k : Int) : Bool := l.getD k.toNat false
theorem markP_len (p : Int → Option Int) (rd : List Bool) (k : Int) : (mark p rd k).length = rd.length := by unfold mark; split <;> simp
theorem mark_mono (p : Int → Option Int) (rd : List Bool) (k j : Int) (h : rdB rd j = true) : rdB (mark p rd k) j = true := by
  unfold mark
  split
  · exact h
  · unfold rdB at *
    by_cases e : k.toNat = j.toNat
    · rw [e]
      have hl : j.toNat < rd.length := Nat.lt_of_not_le fun hle => by simp [List.getD, List.getElem?_eq_none hle] at h
      simp [List.getD, hl]
    · simpa [List.getD, List.getElem?_set_ne e] using h
theorem mark_self {p : Int → Option Int} {rd : List Bool} {k : Int} (hl : rd.length = 16) (h0 : 0 ≤ k) (h1 : k ≤ 15) (hp : p k = none) : rdB (mark p rd k) k = true := by
  unfold mark rdB
  rw [hp]
  have : k.toNat < rd.length := by omega
  simp [List.getD, this]
theorem markK_len (p : Int → Option Int) (rd : List Bool) (b : Int) : ∀ n, (markK p rd b n).length = rd.length
  | 0 => rfl
  | n + 1 => by rw [markK, markP_len, markK_len p rd b n]
theorem markK_mono (p : Int → Option Int) (rd : List Bool) (b j : Int) (h : rdB rd j = true) : ∀ n, rdB (markK p rd b n) j = true
  | 0 => h
  | n + 1 => by rw [markK]; exact mark_mono _ _ _ _ (markK_mono p rd b j h n)
theorem markK_self {p : Int → Option Int} {rd : List Bool} {b : Int} (hl : rd.length = 16) (hb : 0 ≤ b) : ∀ (n : Nat) (j : Nat), j < n → b + j ≤ 15 → p (b + j) = none → rdB (markK p rd b n) (b + j) = true
  | 0, _, hj, _, _ => absurd hj (Nat.not_lt_zero _)
  | n + 1, j, hj, h15, hp => by
    rw [markK]
    by_cases e : j = n
    · subst e
      exact mark_self (by rw [markK_len]; exact hl) (by omega) h15 hp
    · exact mark_mono _ _ _ _ (markK_self hl hb n j (by omega) h15 hp)
theorem rd_ite {p : Prop} [Decidable p] {a b : Mo} {q : List Bool → Prop} (ha : q a.read) (hb : q b.read) : q (if p then a else b).read := by split <;> assumption
theorem bec_read (x : Mo) (a v : Int) : (bec x a v).read = x.read := by unfold bec; split <;> rfl
/-- of the keys read none is lost -/
theorem stp_read (s : St) (m : Int → Int) (x : Mo) {q : List Bool → Prop} (h0 : q x.read) (h1 : q (mark x.puts x.read s.b)) (h2 : q (markK x.puts x.read s.b (s.c - s.b + 1).toNat)) : q (stp s m x).read := by
  have hb : ∀ (y : Mo) (a v : Int), q y.read → q (bec y a v).read := fun y a v h => by rw [bec_read]; exact h
  unfold stp
  simp only
  exact rd_ite h0 (rd_ite h1 (rd_ite h0 (rd_ite h0 (rd_ite (hb _ _ _ h2) (rd_ite (hb _ _ _ h2) (rd_ite (hb _ _ _ h0) (rd_ite (hb _ _ _ h0) (rd_ite (rd_ite h0 h0) (rd_ite (rd_ite h0 h0) (rd_ite h0 (rd_ite h0 h0)))))))))))
theorem stp_rlen (s : St) (m : Int → Int) {x : Mo} (h : x.read.length = 16) : (stp s m x).read.length = 16 :=
  stp_read s m x (q := fun r => r.length = 16) h (by rw [markP_len]; exact h) (by rw [markK_len]; exact h)
theorem stp_rmono (s : St) (m : Int → Int) (x : Mo) {j : Int} (h : rdB x.read j = true) : rdB (stp s m x).read j = true :=
  stp_read s m x (q := fun r => rdB r j = true) h (mark_mono _ _ _ _ h) (markK_mono _ _ _ _ h _)
theorem play_rmono (l : List St) (m : Int → Int) {j : Int} : ∀ (n : Nat) (x : Mo), rdB x.read j = true → rdB (play l m n x).read j = true
  | 0, _, h => h
  | n + 1, x, h => by
    rw [play]
    split
    · exact play_rmono l m n _ (stp_rmono _ _ _ h)
    · exact h
theorem see_same {m m' : Int → Int} {p : Int → Option Int} {k : Int} (h : p k = none → m k = m' k) : see m p k = see m' p k := by
  unfold see
  cases e : p k with
  | none => simp [h e]
  | some v => rfl
theorem ite_eq_same {α : Type} {p : Prop} [Decidable p] {a b a' b' : α} (h1 : p → a = a') (h2 : ¬ p → b = b') : (if p then a else b) = (if p then a' else b') := by
  by_cases h : p
  · rw [if_pos h, if_pos h]; exact h1 h
  · rw [if_neg h, if_neg h]; exact h2 h
theorem sumK_same {f g : Int → Int} {b : Int} : ∀ n : Nat, (∀ j : Nat, j < n → f (b + j) = g (b + j)) → sumK f b n = sumK g b n
  | 0, _ => rfl
  | n + 1, h => by rw [sumK, sumK, sumK_same n (fun j hj => h j (by omega)), h n (by omega)]
theorem cntK_same {f g : Int → Int} {b : Int} : ∀ n : Nat, (∀ j : Nat, j < n → f (b + j) = g (b + j)) → cntK f b n = cntK g b n
  | 0, _ => rfl
  | n + 1, h => by rw [cntK, cntK, cntK_same n (fun j hj => h j (by omega)), h n (by omega)]
/-- a step hangs on the values of the keys that it read -/
theorem stp_same {s : St} {i N : Nat} (hs : stB s i N = true) {m m' : Int → Int} {x : Mo} (hl : x.read.length = 16) (h : ∀ k : Int, 0 ≤ k → k ≤ 15 → rdB (stp s m x).read k = true → m k = m' k) : stp s m x = stp s m' x := by
  have e2 : s.op = 2 → (0 ≤ s.b ∧ s.b ≤ 15) ∧ (stp s m x).read = mark x.puts x.read s.b := fun e => by
    refine ⟨?_, by simp [stp, e, setReg]⟩
    simp [stB, stepB, e, regB, keyB] at hs; omega
  have e5 : s.op = 5 ∨ s.op = 6 → (0 ≤ s.b ∧ s.b ≤ s.c ∧ s.c ≤ 15) ∧ (stp s m x).read = markK x.puts x.read s.b (s.c - s.b + 1).toNat := fun e => by
    refine ⟨?_, ?_⟩
    · rcases e with e | e <;> (simp [stB, stepB, e, regB, keyB] at hs; omega)
    · rcases e with e | e <;> simp [stp, e, bec_read]
  have h5 : s.op = 5 ∨ s.op = 6 → ∀ j : Nat, j < (s.c - s.b + 1).toNat → see m x.puts (s.b + j) = see m' x.puts (s.b + j) := fun e j hj => by
    obtain ⟨⟨b0, b1, b2⟩, hr⟩ := e5 e
    refine see_same fun hp => h _ (by omega) (by omega) ?_
    rw [hr]
    exact markK_self hl b0 _ j hj (by omega) hp
  have hsee : s.op = 2 → see m x.puts s.b = see m' x.puts s.b := fun e => by
    obtain ⟨⟨b0, b1⟩, hr⟩ := e2 e
    exact see_same fun hp => h _ b0 b1 (by rw [hr]; exact mark_self hl b0 b1 hp)
  unfold stp
  simp only
  refine ite_eq_same (fun _ => rfl) (fun _ => ite_eq_same (fun e => ?_) (fun _ => ite_eq_same (fun _ => rfl) (fun _ => ite_eq_same (fun _ => rfl) (fun _ => ite_eq_same (fun e => ?_) (fun _ => ite_eq_same (fun e => ?_) (fun _ => rfl))))))
  · rw [hsee e]
  · rw [sumK_same _ (h5 (Or.inl e))]
  · rw [cntK_same _ (h5 (Or.inr e))]
theorem jobP_at {l : List St} (h : jobB l = true) : ∀ i, i < l.length → stB (l.getD i stz) i l.length = true := by
  simp only [jobB, Bool.and_eq_true, decide_eq_true_eq, List.all_eq_true, List.mem_range] at h
  exact h.2
/-- so does a run -/
theorem play_same {l : List St} (hj : jobB l = true) {m m' : Int → Int} : ∀ (n : Nat) (x : Mo), x.read.length = 16 → (∀ k : Int, 0 ≤ k → k ≤ 15 → rdB (play l m n x).read k = true → m k = m' k) → play l m n x = play l m' n x
  | 0, _, _, _ => rfl
  | n + 1, x, hl, h => by
    rw [play, play]
    by_cases hc : x.fin = 0 ∧ x.pc < l.length
    · rw [if_pos hc, if_pos hc]
      rw [play, if_pos hc] at h
      have e : stp (l.getD x.pc stz) m x = stp (l.getD x.pc stz) m' x := stp_same (jobP_at hj _ hc.2) hl (fun k h0 h1 hr => h k h0 h1 (play_rmono _ _ _ _ hr))
      rw [← e]
      exact play_same hj n _ (stp_rlen _ _ hl) h
    · rw [if_neg hc, if_neg hc]
end Go.Proofs.Ytlbmcdoldnajoab
namespace Go.Proofs.Ytlbmcdoldnajoab
def gAt (gs : List GoodM) (i : Nat) : GoodM := gs.getD i good0
def gP (gs : List GoodM) (i : Nat) : Int → Option Int := (gAt gs i).puts
structure GoodsOK (fuel : Nat) (gs : List GoodM) (L : Nat → List St) (X : Nat → Mo) : Prop where
  job : ∀ i, i < gs.length → jobB (L i) = true
  run : ∀ i, i < gs.length → X i = play (L i) (mapF (gs.take (gAt gs i).beg)) fuel mo0
  read : ∀ i, i < gs.length → (gAt gs i).read = (X i).read
  puts : ∀ i, i < gs.length → gP gs i = if endState (L i) (X i) = 3 then (X i).puts else fun _ => none
  ord : GoodOrd gs.length (fun i => (gAt gs i).beg) (fun i k => (gAt gs i).read.getD k false) (fun i k => (gP gs i k).isSome)
  keys : ∀ i (k v : Int), i < gs.length → gP gs i k = some v → 0 ≤ k ∧ k ≤ 15 ∧ -1 ≤ v ∧ v ≤ 9999
/-- the map behind attempts in an order -/
def chainMap (gs : List GoodM) (τ : List Nat) (k : Int) : Int := valK (gP gs) k (-1) τ
theorem chainMap_snoc (gs : List GoodM) (τ : List Nat) (i : Nat) : chainMap gs (τ ++ [i]) = see (chainMap gs τ) (gP gs i) := by
  funext k
  simp [chainMap, valK, see]
theorem mapF_take (gs : List GoodM) : ∀ n, n ≤ gs.length → mapF (gs.take n) = chainMap gs (List.range n)
  | 0, _ => rfl
  | n + 1, h => by
    have hn : n < gs.length := h
    rw [← List.take_append_getElem hn, mapF_snoc, mapF_take gs n (by omega), List.range_succ, chainMap_snoc]
    have : gP gs n = gs[n].puts := by simp [gP, gAt, List.getD, hn]
    rw [this]
theorem chain_bd {fuel : Nat} {gs : List GoodM} {L : Nat → List St} {X : Nat → Mo} (h : GoodsOK fuel gs L X) (k : Int) : ∀ (τ : List Nat) (v : Int), (∀ i ∈ τ, i < gs.length) → (-1 ≤ v ∧ v ≤ 9999) ∧ (¬ (0 ≤ k ∧ k ≤ 15) → v = -1) → (-1 ≤ valK (gP gs) k v τ ∧ valK (gP gs) k v τ ≤ 9999) ∧ (¬ (0 ≤ k ∧ k ≤ 15) → valK (gP gs) k v τ = -1)
  | [], _, _, hv => hv
  | i :: r, v, hi, hv => by
    refine chain_bd h k r ((gP gs i k).getD v) (fun j hj => hi j (by simp [hj])) ?_
    cases e : gP gs i k with
    | none => exact hv
    | some u =>
      have := h.keys i k u (hi i (by simp)) e
      exact ⟨⟨this.2.2.1, this.2.2.2⟩, fun hn => absurd ⟨this.1, this.2.1⟩ hn⟩
/-- a map of that kind, as a list and back -/
theorem vIn_listOf {f : Int → Int} (h1 : ∀ k, -1 ≤ f k) (h2 : ∀ k, ¬ (0 ≤ k ∧ k ≤ 15) → f k = -1) : vIn (listOf f) = f := by
  funext k
  rw [listOf_acc, vIn_acc]
  split
  · rfl
  · rename_i hn
    by_cases hk : 0 ≤ k ∧ k ≤ 15
    · have := h1 k; omega
    · exact (h2 k hk).symm
theorem chain_list {fuel : Nat} {gs : List GoodM} {L : Nat → List St} {X : Nat → Mo} (h : GoodsOK fuel gs L X) {τ : List Nat} (hτ : ∀ i ∈ τ, i < gs.length) : vIn (listOf (chainMap gs τ)) = chainMap gs τ ∧ mapB (listOf (chainMap gs τ)) = true := by
  have hb : ∀ k, (-1 ≤ chainMap gs τ k ∧ chainMap gs τ k ≤ 9999) ∧ (¬ (0 ≤ k ∧ k ≤ 15) → chainMap gs τ k = -1) := fun k => chain_bd h k τ (-1) hτ ⟨⟨by omega, by omega⟩, fun _ => rfl⟩
  exact ⟨vIn_listOf (fun k => (hb k).1.1) (fun k => (hb k).2), by rw [listOf_acc]; exact acc_mapB (by omega) (fun k => (hb k).1.2)⟩
/-- P13 -/
theorem serial_chain {fuel : Nat} {gs : List GoodM} {L : Nat → List St} {X : Nat → Mo} (h : GoodsOK fuel gs L X) :
    ∃ σ : List Nat, σ.Perm (List.range gs.length) ∧ chainMap gs σ = mapF gs ∧
      ∀ pre i post, σ = pre ++ i :: post → play (L i) (chainMap gs pre) fuel mo0 = X i ∧ mapAfter (L i) (chainMap gs pre) (X i) = chainMap gs (pre ++ [i]) := by
  obtain ⟨σ, hp, hw⟩ := order h.ord gs.length (List.range gs.length) List.length_range List.nodup_range (fun i hi => List.mem_range.1 hi)
  obtain ⟨hr, hall⟩ := order_reads h.ord (P := gP gs) (fun _ _ => rfl) hp hw
  have hlt : ∀ i ∈ σ, i < gs.length := fun i hi => List.mem_range.1 (hp.mem_iff.1 hi)
  refine ⟨σ, hp, ?_, fun pre i post hσ => ?_⟩
  · have e : mapF gs = chainMap gs (List.range gs.length) := by have := mapF_take gs gs.length (Nat.le_refl _); rwa [List.take_length] at this
    rw [e]
    funext k
    by_cases hk : 0 ≤ k ∧ k ≤ 15
    · have := hall k.toNat (-1)
      rwa [show ((k.toNat : Nat) : Int) = k by omega] at this
    · have h1 := (chain_bd h k σ (-1) hlt ⟨⟨by omega, by omega⟩, fun _ => rfl⟩).2 hk
      have h2 := (chain_bd h k (List.range gs.length) (-1) (fun i hi => List.mem_range.1 hi) ⟨⟨by omega, by omega⟩, fun _ => rfl⟩).2 hk
      exact h1.trans h2.symm
  · have hi : i < gs.length := hlt i (by rw [hσ]; simp)
    have hb : (gAt gs i).beg ≤ i := h.ord.begle i hi
    have hx := h.run i hi
    have e1 : play (L i) (chainMap gs pre) fuel mo0 = X i := by
      rw [hx]
      refine (play_same (h.job i hi) fuel mo0 rfl (fun k h0 h1 hk => ?_)).symm
      rw [← hx, ← h.read i hi] at hk
      rw [mapF_take gs _ (by omega)]
      have := hr pre post i hσ k.toNat hk (-1)
      rw [show ((k.toNat : Nat) : Int) = k by omega] at this
      exact this.symm
    refine ⟨e1, ?_⟩
    rw [chainMap_snoc, h.puts i hi, mapAfter]
    by_cases h3 : endState (L i) (X i) = 3
    · rw [if_pos h3, if_pos h3]
    · rw [if_neg h3, if_neg h3]
      funext k
      simp [see]
end Go.Proofs.Ytlbmcdoldnajoab
