import Derived.Test.YtlbmcdoldnajoaaGreatOk
import Derived.Test.YtlbmcdoldnajoaaGreatFrA
import Derived.Test.YtlbmcdoldnajoaaGreatDeskM
namespace Go.Proofs.YtlbmcdoldnajoaaGreat
structure GoodOrd (N : Nat) (beg : Nat → Nat) (R W : Nat → Nat → Bool) : Prop where
  begle : ∀ t, t < N → beg t ≤ t
  clash : ∀ t u, t < N → u < t → beg t ≤ u → ∀ k, ¬ (W u k = true ∧ W t k = true)
  pivot : ∀ t v u, t < N → v ≤ u → u < t → beg t ≤ v → ∀ k k', ¬ (W v k = true ∧ R t k = true ∧ R u k' = true ∧ W t k' = true)
  outer : ∀ t u v, t < N → u < t → beg t ≤ u → v < u → beg u ≤ v → ∀ k k', W u k = true → R t k = true → W v k' = true → R u k' = true → (∃ j, W t j = true) ∨ v < beg t → False
def Ahead (beg : Nat → Nat) (R W : Nat → Nat → Bool) (i j : Nat) : Prop :=
  i ≠ j ∧ ((i < j ∧ ∃ k, W i k = true ∧ W j k = true) ∨ (i < beg j ∧ ∃ k, W i k = true ∧ R j k = true) ∨ (beg i ≤ j ∧ ∃ k, R i k = true ∧ W j k = true))
theorem least_of (S : Nat → Prop) : ∀ n, S n → ∃ m, S m ∧ ∀ i, S i → m ≤ i := by
  intro n
  induction n using Nat.strongRecOn with
  | ind n ih =>
    intro hn
    by_cases h : ∃ m, m < n ∧ S m
    · obtain ⟨m, hm, hs⟩ := h
      exact ih m hm hs
    · exact ⟨n, hn, fun i hi => Nat.le_of_not_lt (fun hlt => h ⟨i, hlt, hi⟩)⟩
theorem source {N : Nat} {beg : Nat → Nat} {R W : Nat → Nat → Bool} (h : GoodOrd N beg R W) (S : Nat → Prop) (hS : ∀ i, S i → i < N) (hne : ∃ i, S i) : ∃ i, S i ∧ ∀ j, S j → ¬ Ahead beg R W j i := by
  refine Classical.byContradiction fun hno => ?_
  have hpred : ∀ i, S i → ∃ j, S j ∧ Ahead beg R W j i := fun i hi => Classical.byContradiction fun hc => hno ⟨i, hi, fun j hj ha => hc ⟨j, hj, ha⟩⟩
  obtain ⟨n, hn⟩ := hne
  obtain ⟨v, hv, hmin⟩ := least_of S n hn
  obtain ⟨u, hu, huv, hU⟩ := hpred v hv
  have hvu : v < u := by have := hmin u hu; omega
  have hbv := h.begle v (hS v hv)
  -- u read past v
  obtain ⟨hb, k, hk1, hk2⟩ : beg u ≤ v ∧ ∃ k, R u k = true ∧ W v k = true := by
    rcases hU with ⟨h1, _⟩ | ⟨h1, _⟩ | h1
    · omega
    · omega
    · exact h1
  obtain ⟨t, ht, htu, hT⟩ := hpred u hu
  have hvt := hmin t ht
  -- t read past u
  obtain ⟨hb2, k2, hk3, hk4⟩ : beg t ≤ u ∧ ∃ k, R t k = true ∧ W u k = true := by
    rcases hT with ⟨h1, k', h2, h3⟩ | ⟨h1, _⟩ | h1
    · exact absurd ⟨h2, h3⟩ (h.clash u t (hS u hu) h1 (by omega) k')
    · omega
    · exact h1
  by_cases hlt : t < u
  · exact h.pivot u v t (hS u hu) hvt hlt hb k k2 ⟨hk2, hk1, hk3, hk4⟩
  · have hut : u < t := by omega
    refine h.outer t u v (hS t ht) hut hb2 hvu hb k2 k hk4 hk3 hk2 hk1 ?_
    by_cases hw : ∃ j, W t j = true
    · exact Or.inl hw
    · right
      obtain ⟨s, hs, hst, hSs⟩ := hpred t ht
      have hvs := hmin s hs
      rcases hSs with ⟨_, k', _, h3⟩ | ⟨h1, _⟩ | ⟨_, k', _, h3⟩
      · exact absurd ⟨k', h3⟩ hw
      · omega
      · exact absurd ⟨k', h3⟩ hw
theorem order {N : Nat} {beg : Nat → Nat} {R W : Nat → Nat → Bool} (h : GoodOrd N beg R W) : ∀ (n : Nat) (L : List Nat), L.length = n → L.Nodup → (∀ i ∈ L, i < N) → ∃ σ : List Nat, σ.Perm L ∧ σ.Pairwise (fun a b => ¬ Ahead beg R W b a)
  | 0, L, hn, _, _ => by
    obtain rfl := List.eq_nil_of_length_eq_zero hn
    exact ⟨[], List.Perm.refl _, List.Pairwise.nil⟩
  | n + 1, L, hn, hd, hL => by
    have hne : ∃ i, i ∈ L := by
      cases L with
      | nil => simp at hn
      | cons a r => exact ⟨a, by simp⟩
    obtain ⟨i, hi, hsrc⟩ := source h (fun i => i ∈ L) hL hne
    obtain ⟨σ, hp, hw⟩ := order h n (L.erase i) (by rw [List.length_erase_of_mem hi, hn]; rfl) (hd.erase i) (fun j hj => hL j (List.mem_of_mem_erase hj))
    refine ⟨i :: σ, (List.Perm.cons i hp).trans (List.perm_cons_erase hi).symm, List.pairwise_cons.2 ⟨fun b hb => ?_, hw⟩⟩
    exact hsrc b (List.mem_of_mem_erase (hp.mem_iff.1 hb))
def valK (P : Nat → Int → Option Int) (k : Int) (v : Int) (τ : List Nat) : Int := τ.foldl (fun v i => (P i k).getD v) v
def rdB (l : List Bool) (k : Int) : Bool := l.getD k.toNat false
theorem jobP_at {l : List St} (h : jobB l = true) : ∀ i, i < l.length → stB (l.getD i stz) i l.length = true := by
  simp only [jobB, Bool.and_eq_true, decide_eq_true_eq, List.all_eq_true, List.mem_range] at h
  exact h.2
def gAt (gs : List GoodM) (i : Nat) : GoodM := gs.getD i good0
def gP (gs : List GoodM) (i : Nat) : Int → Option Int := (gAt gs i).puts
structure GoodsOK (fuel : Nat) (gs : List GoodM) (L : Nat → List St) (X : Nat → Mo) : Prop where
  job : ∀ i, i < gs.length → jobB (L i) = true
  run : ∀ i, i < gs.length → X i = play (L i) (mapF (gs.take (gAt gs i).beg)) fuel mo0
  read : ∀ i, i < gs.length → (gAt gs i).read = (X i).read
  puts : ∀ i, i < gs.length → gP gs i = if endState (L i) (X i) = 3 then (X i).puts else fun _ => none
  ord : GoodOrd gs.length (fun i => (gAt gs i).beg) (fun i k => (gAt gs i).read.getD k false) (fun i k => (gP gs i k).isSome)
  keys : ∀ i (k v : Int), i < gs.length → gP gs i k = some v → 0 ≤ k ∧ k ≤ 15 ∧ -1 ≤ v ∧ v ≤ 9999
def chainMap (gs : List GoodM) (τ : List Nat) (k : Int) : Int := valK (gP gs) k (-1) τ
theorem chainMap_snoc (gs : List GoodM) (τ : List Nat) (i : Nat) : chainMap gs (τ ++ [i]) = see (chainMap gs τ) (gP gs i) := by
  funext k
  simp [chainMap, valK, see]
theorem mapF_take (gs : List GoodM) : ∀ n, n ≤ gs.length → mapF (gs.take n) = chainMap gs (List.range n)
  | 0, _ => rfl
  | n + 1, h => by
    have hn : n < gs.length := h
    rw [← List.take_append_getElem hn, mapF_snoc, mapF_take gs n (by omega), List.range_succ, chainMap_snoc]
    have : gP gs n = gs[n].puts := by simp [gP, gAt, List.getD, hn]
    rw [this]
theorem chain_bd {fuel : Nat} {gs : List GoodM} {L : Nat → List St} {X : Nat → Mo} (h : GoodsOK fuel gs L X) (k : Int) : ∀ (τ : List Nat) (v : Int), (∀ i ∈ τ, i < gs.length) → (-1 ≤ v ∧ v ≤ 9999) ∧ (¬ (0 ≤ k ∧ k ≤ 15) → v = -1) → (-1 ≤ valK (gP gs) k v τ ∧ valK (gP gs) k v τ ≤ 9999) ∧ (¬ (0 ≤ k ∧ k ≤ 15) → valK (gP gs) k v τ = -1)
  | [], _, _, hv => hv
  | i :: r, v, hi, hv => by
    refine chain_bd h k r ((gP gs i k).getD v) (fun j hj => hi j (by simp [hj])) ?_
    cases e : gP gs i k with
    | none => exact hv
    | some u =>
      have := h.keys i k u (hi i (by simp)) e
      exact ⟨⟨this.2.2.1, this.2.2.2⟩, fun hn => absurd ⟨this.1, this.2.1⟩ hn⟩
theorem vIn_listOf {f : Int → Int} (h1 : ∀ k, -1 ≤ f k) (h2 : ∀ k, ¬ (0 ≤ k ∧ k ≤ 15) → f k = -1) : vIn (listOf f) = f := by
  funext k
  rw [listOf_acc, vIn_acc]
  split
  · rfl
  · rename_i hn
    by_cases hk : 0 ≤ k ∧ k ≤ 15
    · have := h1 k; omega
    · exact (h2 k hk).symm
theorem chain_list {fuel : Nat} {gs : List GoodM} {L : Nat → List St} {X : Nat → Mo} (h : GoodsOK fuel gs L X) {τ : List Nat} (hτ : ∀ i ∈ τ, i < gs.length) : vIn (listOf (chainMap gs τ)) = chainMap gs τ ∧ mapB (listOf (chainMap gs τ)) = true := by
  have hb : ∀ k, (-1 ≤ chainMap gs τ k ∧ chainMap gs τ k ≤ 9999) ∧ (¬ (0 ≤ k ∧ k ≤ 15) → chainMap gs τ k = -1) := fun k => chain_bd h k τ (-1) hτ ⟨⟨by omega, by omega⟩, fun _ => rfl⟩
  exact ⟨vIn_listOf (fun k => (hb k).1.1) (fun k => (hb k).2), by rw [listOf_acc]; exact acc_mapB (by omega) (fun k => (hb k).1.2)⟩
theorem find_zero {l : List Nat} {p : Nat → Bool} (h : (l.find? p).elim 0 (· + 1) = 0) : ∀ u ∈ l, p u = false := by
  cases e : l.find? p with
  | none => intro u hu; simpa using (List.find?_eq_none.1 e) u hu
  | some u => rw [e] at h; simp at h
theorem share_no {a b : List Bool} (h : DeskM.share a b = false) {k : Nat} (hk : k < 16) : ¬ (a.getD k false = true ∧ b.getD k false = true) := by
  simp only [DeskM.share, List.any_eq_false, List.mem_range] at h
  have := h k hk
  simpa [Bool.and_eq_true] using this
theorem share_yes {a b : List Bool} {k : Nat} (hk : k < 16) (h1 : a.getD k false = true) (h2 : b.getD k false = true) : DeskM.share a b = true := by
  simp only [DeskM.share, List.any_eq_true, List.mem_range]
  exact ⟨k, hk, by rw [h1, h2]; rfl⟩
theorem wroteL_at (p : Int → Option Int) {k : Nat} (hk : k < 16) : (DeskM.wroteL p).getD k false = (p k).isSome := by simp [DeskM.wroteL, List.getD, hk]
theorem gAt_old {gs : List GoodM} {t : GoodM} {i : Nat} (h : i < gs.length) : gAt (gs ++ [t]) i = gAt gs i := by simp [gAt, List.getD, List.getElem?_append_left h]
theorem gAt_new (gs : List GoodM) (t : GoodM) : gAt (gs ++ [t]) gs.length = t := by simp [gAt, List.getD]
structure NoPartner (gs : List GoodM) (t : GoodM) : Prop where
  clash : ∀ u, u < gs.length → t.beg ≤ u → ∀ k : Nat, ¬ ((gP gs u k).isSome = true ∧ (t.puts k).isSome = true)
  pivot : ∀ v u, v ≤ u → u < gs.length → t.beg ≤ v → ∀ k k' : Nat, ¬ ((gP gs v k).isSome = true ∧ t.read.getD k false = true ∧ (gAt gs u).read.getD k' false = true ∧ (t.puts k').isSome = true)
  outer : ∀ u v, u < gs.length → t.beg ≤ u → v < u → (gAt gs u).beg ≤ v → ∀ k k' : Nat, (gP gs u k).isSome = true → t.read.getD k false = true → (gP gs v k').isSome = true → (gAt gs u).read.getD k' false = true → (∃ j : Nat, (t.puts j).isSome = true) ∨ v < t.beg → False
theorem no_partner {d : DeskM} {t : GoodM} (h : d.partner t = 0) (hk : ∀ i (k v : Int), i < d.goods.length → gP d.goods i k = some v → 0 ≤ k ∧ k ≤ 15) (hk' : ∀ (k v : Int), t.puts k = some v → 0 ≤ k ∧ k ≤ 15) : NoPartner d.goods t := by
  have hc : d.clash t = 0 := by unfold DeskM.partner at h; split at h <;> first | contradiction | (rename_i e; exact Classical.not_not.1 e)
  have hp : d.pivot t = 0 := by
    unfold DeskM.partner at h
    rw [if_neg (by omega)] at h
    split at h <;> first | contradiction | (rename_i e; exact Classical.not_not.1 e)
  have ho : d.outer t = 0 := by
    unfold DeskM.partner at h
    rwa [if_neg (by omega), if_neg (by omega)] at h
  have hg : ∀ u, d.good (u + 1) = gAt d.goods u := fun u => rfl
  have w16 : ∀ i (k : Nat), i < d.goods.length → (gP d.goods i k).isSome = true → k < 16 := fun i k hi hs => by
    obtain ⟨v, hv⟩ := Option.isSome_iff_exists.1 hs
    have := hk i k v hi hv; omega
  have t16 : ∀ k : Nat, (t.puts k).isSome = true → k < 16 := fun k hs => by
    obtain ⟨v, hv⟩ := Option.isSome_iff_exists.1 hs
    have := hk' k v hv; omega
  have ww : ∀ u (k : Nat), k < 16 → (DeskM.wroteL (d.good (u + 1)).puts).getD k false = (gP d.goods u k).isSome := fun u k h16 => wroteL_at _ h16
  refine ⟨fun u hu hb k hkk => ?_, fun v u hvu hu hb k k' hkk => ?_, fun u v hu hb hvu hbv k k' h1 h2 h3 h4 h5 => ?_⟩
  · have h16 := t16 k hkk.2
    have := find_zero hc u (by simp [hu])
    rw [Bool.and_eq_false_iff] at this
    rcases this with this | this
    · simp at this; omega
    · exact share_no this h16 ⟨by rw [ww u k h16]; exact hkk.1, by rw [wroteL_at _ h16]; exact hkk.2⟩
  · obtain ⟨a1, a2, a3, a4⟩ := hkk
    have h16 := w16 v k (by omega) a1
    have h16' := t16 k' a4
    have := find_zero hp v (by simp; omega)
    rw [Bool.and_eq_false_iff, Bool.and_eq_false_iff] at this
    rcases this with (this | this) | this
    · simp at this; omega
    · exact share_no this h16 ⟨by rw [ww v k h16]; exact a1, a2⟩
    · rw [List.any_eq_false] at this
      have := this u (by simp [hu])
      refine this ?_
      rw [Bool.and_eq_true]
      exact ⟨by simpa using hvu, share_yes h16' a3 (by rw [wroteL_at _ h16']; exact a4)⟩
  · have h16 := w16 u k hu h1
    have h16' := w16 v k' (by omega) h3
    have := find_zero ho u (by simp [hu])
    rw [Bool.and_eq_false_iff, Bool.and_eq_false_iff] at this
    rcases this with (this | this) | this
    · simp at this; omega
    · exact share_no this h16 ⟨by rw [ww u k h16]; exact h1, h2⟩
    · rw [List.any_eq_false] at this
      refine this v (by simp [hvu]) ?_
      rw [Bool.and_eq_true, Bool.and_eq_true, Bool.or_eq_true]
      refine ⟨⟨by simpa [hg] using hbv, share_yes h16' (by rw [ww v k' h16']; exact h3) h4⟩, ?_⟩
      rcases h5 with ⟨j, hj⟩ | h5
      · have j16 := t16 j hj
        exact Or.inl (share_yes j16 (by rw [wroteL_at _ j16]; exact hj) (by rw [wroteL_at _ j16]; exact hj))
      · exact Or.inr (by simp; omega)
theorem goods_snoc {fuel : Nat} {gs : List GoodM} {L : Nat → List St} {X : Nat → Mo} (h : GoodsOK fuel gs L X) {t : GoodM} {l : List St} {x : Mo} (hj : jobB l = true) (hb : t.beg ≤ gs.length) (hx : x = play l (mapF (gs.take t.beg)) fuel mo0) (hr : t.read = x.read)
    (hp : t.puts = if endState l x = 3 then x.puts else fun _ => none) (hk : ∀ (k v : Int), t.puts k = some v → 0 ≤ k ∧ k ≤ 15 ∧ -1 ≤ v ∧ v ≤ 9999) (hn : NoPartner gs t) :
    GoodsOK fuel (gs ++ [t]) (fun i => if i = gs.length then l else L i) (fun i => if i = gs.length then x else X i) := by
  have hlen : (gs ++ [t]).length = gs.length + 1 := by simp
  have hcase : ∀ i, i < (gs ++ [t]).length → i < gs.length ∨ i = gs.length := fun i hi => by omega
  have hgp : ∀ i, i < gs.length → gP (gs ++ [t]) i = gP gs i := fun i hi => by unfold gP; rw [gAt_old hi]
  have hgn : gP (gs ++ [t]) gs.length = t.puts := by unfold gP; rw [gAt_new]
  have htake : ∀ n, n ≤ gs.length → (gs ++ [t]).take n = gs.take n := fun n hn => List.take_append_of_le_length hn
  refine ⟨fun i hi => ?_, fun i hi => ?_, fun i hi => ?_, fun i hi => ?_, ?_, fun i k v hi hs => ?_⟩
  · rcases hcase i hi with e | rfl
    · rw [if_neg (by omega)]; exact h.job i e
    · rw [if_pos rfl]; exact hj
  · rcases hcase i hi with e | rfl
    · have hbi := h.ord.begle i e
      rw [if_neg (by omega), if_neg (by omega), gAt_old e, htake _ (by have : (gAt gs i).beg ≤ i := hbi; omega)]
      exact h.run i e
    · rw [if_pos rfl, if_pos rfl, gAt_new, htake _ hb]; exact hx
  · rcases hcase i hi with e | rfl
    · rw [if_neg (by omega), gAt_old e]; exact h.read i e
    · rw [if_pos rfl, gAt_new]; exact hr
  · rcases hcase i hi with e | rfl
    · have ne : ¬ i = gs.length := by omega
      rw [hgp i e, h.puts i e]
      simp only [if_neg ne]
    · rw [hgn, hp]
      simp only [if_true]
  · refine ⟨fun i hi => ?_, fun i u hi hu hbu k hkk => ?_, fun i v u hi hvu hu hbv k k' hkk => ?_, fun i u v hi hu hbu hvu hbv k k' h1 h2 h3 h4 h5 => ?_⟩
    · show (gAt (gs ++ [t]) i).beg ≤ i
      rcases hcase i hi with e | rfl
      · rw [gAt_old e]; exact h.ord.begle i e
      · rw [gAt_new]; exact hb
    · rcases hcase i hi with e | rfl
      · rw [gAt_old e] at hbu
        rw [hgp i e, hgp u (by omega)] at hkk
        exact h.ord.clash i u e hu hbu k hkk
      · rw [gAt_new] at hbu
        rw [hgn, hgp u hu] at hkk
        exact hn.clash u hu hbu k hkk
    · rcases hcase i hi with e | rfl
      · rw [gAt_old e] at hbv
        rw [hgp i e, hgp v (by omega), gAt_old e, gAt_old (show u < gs.length by omega)] at hkk
        exact h.ord.pivot i v u e hvu hu hbv k k' hkk
      · rw [gAt_new] at hbv
        rw [hgn, hgp v (by omega), gAt_new, gAt_old hu] at hkk
        exact hn.pivot v u hvu hu hbv k k' hkk
    · rcases hcase i hi with e | rfl
      · rw [gAt_old e] at hbu h2
        rw [gAt_old (show u < gs.length by omega)] at hbv h4
        rw [hgp u (by omega)] at h1
        rw [hgp v (by omega)] at h3
        rw [hgp i e, gAt_old e] at h5
        exact h.ord.outer i u v e hu hbu hvu hbv k k' h1 h2 h3 h4 h5
      · rw [gAt_new] at hbu h2
        rw [gAt_old hu] at hbv h4
        rw [hgp u hu] at h1
        rw [hgp v (by omega)] at h3
        rw [hgn, gAt_new] at h5
        exact hn.outer u v hu hbu hvu hbv k k' h1 h2 h3 h4 h5
  · rcases hcase i hi with e | rfl
    · rw [hgp i e] at hs; exact h.keys i k v e hs
    · rw [hgn] at hs; exact hk k v hs
namespace DeskM
def Has (d : DeskM) (n : Nat) : Prop := 1 ≤ n ∧ n ≤ d.jobs.length
def gL (d : DeskM) (i : Nat) : List St := (d.job (gAt d.goods i).ticket).steps
def gX (d : DeskM) (i : Nat) : Mo := play (d.gL i) (mapF (d.goods.take (gAt d.goods i).beg)) d.c.fuel mo0
def Over (j : JobM) : Prop := 3 ≤ j.state ∧ j.state ≤ 5
end DeskM
theorem job_set {d : DeskM} {n m : Nat} (hn : d.Has n) (hm : 1 ≤ m) (j : JobM) : (d.setJob n j).job m = if m = n then j else d.job m := by
  obtain ⟨h1, h2⟩ := hn
  unfold DeskM.setJob DeskM.job
  by_cases e : m = n
  · subst e
    rw [if_pos rfl]
    simp [List.getD, show m - 1 < d.jobs.length by omega]
  · rw [if_neg e]
    simp only [List.getD]
    rw [List.getElem?_set_ne (by omega)]
theorem set_len (d : DeskM) (n : Nat) (j : JobM) : (d.setJob n j).jobs.length = d.jobs.length := by simp [DeskM.setJob]
structure GInv (d : DeskM) : Prop where
  goods : GoodsOK d.c.fuel d.goods d.gL d.gX
  gjob : ∀ i, i < d.goods.length → d.Has (gAt d.goods i).ticket ∧ (d.job (gAt d.goods i).ticket).state = endState (d.gL i) (d.gX i) ∧ (d.job (gAt d.goods i).ticket).told = (d.gX i).told
  gone : ∀ i j, i < d.goods.length → j < d.goods.length → (gAt d.goods i).ticket = (gAt d.goods j).ticket → i = j
  gall : ∀ n, d.Has n → DeskM.Over (d.job n) → ∃ i, i < d.goods.length ∧ (gAt d.goods i).ticket = n
theorem GoodsOK.congr {fuel : Nat} {gs : List GoodM} {L L' : Nat → List St} {X X' : Nat → Mo} (h : GoodsOK fuel gs L X) (hL : ∀ i, i < gs.length → L' i = L i) (hX : ∀ i, i < gs.length → X' i = X i) : GoodsOK fuel gs L' X' :=
  ⟨fun i hi => by rw [hL i hi]; exact h.job i hi, fun i hi => by rw [hL i hi, hX i hi]; exact h.run i hi, fun i hi => by rw [hX i hi]; exact h.read i hi, fun i hi => by rw [hL i hi, hX i hi]; exact h.puts i hi, h.ord, h.keys⟩
theorem ginv0 (c : ConfM) : GInv (desk0 c) := by
  refine ⟨⟨?_, ?_, ?_, ?_, ⟨?_, ?_, ?_, ?_⟩, ?_⟩, ?_, ?_, ?_⟩
  all_goals simp [desk0, DeskM.Has]
  all_goals omega
theorem GInv.same {d d' : DeskM} (h : GInv d) (hc : d'.c = d.c) (hg : d'.goods = d.goods) (hlen : d.jobs.length ≤ d'.jobs.length)
    (hst : ∀ n, d.Has n → (d'.job n).steps = (d.job n).steps ∧ (DeskM.Over (d.job n) → (d'.job n).state = (d.job n).state ∧ (d'.job n).told = (d.job n).told))
    (hnew : ∀ n, d'.Has n → DeskM.Over (d'.job n) → d.Has n ∧ DeskM.Over (d.job n)) : GInv d' := by
  have hover : ∀ i, i < d.goods.length → DeskM.Over (d.job (gAt d.goods i).ticket) := fun i hi => by
    obtain ⟨_, hs, _⟩ := h.gjob i hi
    unfold DeskM.Over
    rw [hs]
    have hf := play_fin (d.gL i) (mapF (d.goods.take (gAt d.goods i).beg)) d.c.fuel mo0 (Or.inl rfl)
    show 3 ≤ endState (d.gL i) (d.gX i) ∧ endState (d.gL i) (d.gX i) ≤ 5
    unfold endState
    have hf' : (d.gX i).fin = 0 ∨ (d.gX i).fin = 4 ∨ (d.gX i).fin = 5 := hf
    split
    · split <;> omega
    · omega
  have hL : ∀ i, i < d.goods.length → d'.gL i = d.gL i := fun i hi => by
    unfold DeskM.gL
    rw [hg]
    exact (hst _ (h.gjob i hi).1).1
  have hX : ∀ i, i < d.goods.length → d'.gX i = d.gX i := fun i hi => by
    unfold DeskM.gX
    rw [hL i hi, hg, hc]
  refine ⟨?_, ?_, ?_, ?_⟩
  · rw [hc, hg]; exact h.goods.congr hL hX
  · rw [hg]
    intro i hi
    obtain ⟨h1, h2, h3⟩ := h.gjob i hi
    obtain ⟨k1, k2⟩ := (hst _ h1).2 (hover i hi)
    exact ⟨⟨h1.1, Nat.le_trans h1.2 hlen⟩, by rw [k1, hL i hi, hX i hi]; exact h2, by rw [k2, hX i hi]; exact h3⟩
  · rw [hg]; exact h.gone
  · rw [hg]
    intro n hn ho
    obtain ⟨h1, h2⟩ := hnew n hn ho
    exact h.gall n h1 h2
theorem GInv.submit {d : DeskM} (h : GInv d) (l : List St) : GInv (d.submit l).1 := by
  unfold DeskM.submit
  split
  · exact h
  · split
    · exact h
    · have hj : ∀ n, 1 ≤ n → n ≤ d.jobs.length → DeskM.job { d with jobs := d.jobs ++ [⟨l, 1, [], 0, 0, false⟩], queue := d.queue ++ [d.jobs.length + 1] } n = d.job n := fun n h1 h2 => by
        simp only [DeskM.job, List.getD]
        rw [List.getElem?_append_left (by omega)]
      refine h.same rfl rfl (by simp) (fun n hn => ?_) (fun n hn ho => ?_)
      · rw [hj n hn.1 hn.2]; exact ⟨rfl, fun _ => ⟨rfl, rfl⟩⟩
      · have hn2 : n ≤ d.jobs.length + 1 := by have := hn.2; simpa using this
        by_cases e : n = d.jobs.length + 1
        · subst e
          have : DeskM.job { d with jobs := d.jobs ++ [⟨l, 1, [], 0, 0, false⟩], queue := d.queue ++ [d.jobs.length + 1] } (d.jobs.length + 1) = ⟨l, 1, [], 0, 0, false⟩ := by simp [DeskM.job, List.getD]
          rw [this] at ho
          exact absurd ho.1 (by simp)
        · rw [hj n hn.1 (by omega)] at ho
          exact ⟨⟨hn.1, by omega⟩, ho⟩
theorem GInv.turn {d e : DeskM} (h : GInv d) {n : Nat} (hn : d.Has n) (hno : ¬ DeskM.Over (d.job n)) {j : JobM} (hs : j.steps = (d.job n).steps) (hj : ¬ DeskM.Over j) (hc : e.c = d.c) (hg : e.goods = d.goods) (he : e.jobs = (d.setJob n j).jobs) : GInv e := by
  have hjob : ∀ m, e.job m = (d.setJob n j).job m := fun m => by unfold DeskM.job; rw [he]
  have hlen : e.jobs.length = d.jobs.length := by rw [he, set_len]
  refine h.same hc hg (by omega) (fun m hm => ?_) (fun m hm ho => ?_)
  · rw [hjob, job_set hn hm.1]
    by_cases e1 : m = n
    · subst e1
      rw [if_pos rfl]
      exact ⟨hs, fun ho => absurd ho hno⟩
    · rw [if_neg e1]; exact ⟨rfl, fun _ => ⟨rfl, rfl⟩⟩
  · have hm' : d.Has m := ⟨hm.1, by have := hm.2; omega⟩
    rw [hjob, job_set hn hm.1] at ho
    by_cases e1 : m = n
    · rw [if_pos e1] at ho; exact absurd ho hj
    · rw [if_neg e1] at ho; exact ⟨hm', ho⟩
end Go.Proofs.YtlbmcdoldnajoaaGreat
