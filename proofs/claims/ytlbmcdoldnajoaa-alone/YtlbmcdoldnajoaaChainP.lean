import Derived.Test.YtlbmcdoldnajoaaFrame
import Derived.ProofKit
import Derived.Deep.Slices
import Derived.Test.YtlbmcdoldnajoaaRunP
import Derived.Test.YtlbmcdoldnajoaaRefD
import Derived.Test.YtlbmcdoldnajoaaStepW
import Derived.Test.YtlbmcdoldnajoaaDoesLaw
import Derived.Test.YtlbmcdoldnajoaaDeskM

namespace Go.Proofs.Ytlbmcdoldnajoaa
open Go.RowKit Go.Deep
theorem Try.cellsInt : Try.prog.cellsOf 3 = 1 := by kernel_rfl
end Go.Proofs.Ytlbmcdoldnajoaa

namespace Go.Proofs.Ytlbmcdoldnajoaa
open Go.RowKit Go.Deep
theorem i64B_wf {n : Int} (h : (Lit.int .i64 n).wf = true) : i64B n := by
  have h' : IntKind.i64.min ≤ n ∧ n ≤ IntKind.i64.max := by simpa [Lit.wf] using h
  exact ⟨Int.le_trans (by decide) h'.1, Int.le_trans h'.2 (by decide)⟩
section
variable {H : Type} {enc : TypeId × Value → H} {w : World} {base : Nat} {spare : Nat → Bool} {held : Bool}
set_option maxRecDepth 100000 in
theorem open_ints {fuel : Nat} {v : Value} {x : DataW H × List MemPlace} (h : DataW.trod enc Try.prog w base spare held fuel 37 [v] = some x) :
    ∃ l : List Int, (∀ n ∈ l, i64B n) ∧ (l.length ≤ 140737488351232 → IntsV w v l) ∧ (l = [] ∨ ∃ el sp, x.1 = .slice el sp ∧ el.length = l.length) := by
  rcases open_slice Try.underlying37 h with ⟨hc, _⟩ | ⟨a, len, cap, m, n, D, Pl, hc, hb, hl, hm, hmm, hx, hall⟩
  · simp at hc
    exact ⟨[], by simp, fun _ => ⟨none, 0, hc, Nat.zero_le _, Or.inl rfl⟩, Or.inl rfl⟩
  · simp at hc
    have hlm : len ≤ m := by rw [hmm]; split <;> omega
    obtain ⟨S, hS⟩ := choose_lt (n := len) (p := fun i (s : Int) => i64B s ∧ w.cell? (a.add i) = some (Value.int .i64 s)) (fun i hi => by
      obtain ⟨cs, h1, h2⟩ := hall i (by omega)
      rw [Try.cellsInt] at h1
      obtain ⟨_, _, hcell⟩ := World.cells?_some h1
      obtain ⟨s, rfl, _, hw⟩ := DataW.trod_int Try.underlying3 h2
      have := hcell 0 (by omega)
      simp only [Nat.mul_one] at this
      exact ⟨s, i64B_wf hw, by simpa [WideShapes.add_plain, Addr.add] using this⟩)
    have hlen : ((List.range len).map S).length = len := by simp
    refine ⟨(List.range len).map S, fun n hn => ?_, fun hmax => ⟨some a, cap, by rw [hlen]; exact hc, hmax, ?_⟩, Or.inr ⟨_, _, by rw [hx], by simp⟩⟩
    · simp only [List.mem_map, List.mem_range] at hn
      obtain ⟨i, hi, rfl⟩ := hn
      exact (hS i hi).1
    by_cases h0 : len = 0
    · left; subst h0; rfl
    · right
      obtain ⟨b, off, spot⟩ := a
      have hz := (hS 0 (by omega)).2
      simp [Addr.add] at hz
      have hspot : spot = none := by simpa using World.cell?_spot hz
      subst hspot
      refine ⟨b, off, rfl, World.block_lt_of_cell? w _ hz, fun i hi => ?_⟩
      rw [hlen] at hi
      have e : ((List.range len).map S).getD i 0 = S i := by simp [List.getD, hi]
      rw [e]
      have q := (hS i hi).2
      simp only [WideShapes.add_plain] at q
      exact q
end
end Go.Proofs.Ytlbmcdoldnajoaa

namespace Go.Proofs.Ytlbmcdoldnajoaa
open Go.RowKit
end Go.Proofs.Ytlbmcdoldnajoaa
namespace Go.Proofs.Ytlbmcdoldnajoaa
theorem play_add (l : List St) (m : Int → Int) : ∀ (a b : Nat) (x : Mo), play l m (a + b) x = play l m b (play l m a x)
  | 0, b, x => by rw [Nat.zero_add]; rfl
  | a + 1, b, x => by
    rw [show a + 1 + b = (a + b) + 1 by omega, play, play]
    by_cases h : x.fin = 0 ∧ x.pc < l.length
    · rw [if_pos h, if_pos h]; exact play_add l m a b _
    · rw [if_neg h, if_neg h, play_end h]
def ltK (a b : Int × Int) : Prop := a.1 < b.1
theorem pair_mapB {l : List (Int × Int)} (h : ∀ p ∈ l, (0 ≤ p.1 ∧ p.1 ≤ 15) ∧ 0 ≤ p.2 ∧ p.2 ≤ 9999) (hs : l.Pairwise ltK) : mapB l = true := by
  rw [mapB_eq, List.all_eq_true]
  intro i hi
  have hi := List.mem_range.1 hi
  have e : l.getD i pz = l[i] := by simp [List.getD, hi]
  have hm := h l[i] (List.getElem_mem _)
  simp only [goodP, Bool.and_eq_true, Bool.or_eq_true, decide_eq_true_eq, e, keyB]
  refine ⟨⟨hm.1, hm.2⟩, ?_⟩
  by_cases h0 : i = 0
  · exact Or.inl h0
  · refine Or.inr ?_
    have hi' : i - 1 < l.length := by omega
    have e' : l.getD (i - 1) pz = l[i - 1] := by simp [List.getD, hi']
    rw [e']
    exact (List.pairwise_iff_getElem.1 hs) (i - 1) i hi' hi (by omega)
theorem acc_mem {f : Int → Int} {n : Nat} {p : Int × Int} : p ∈ accL f n ↔ 0 ≤ p.1 ∧ p.1 < n ∧ 0 ≤ f p.1 ∧ p.2 = f p.1 := by
  simp only [accL, List.mem_filterMap, List.mem_range]
  constructor
  · rintro ⟨k, hk, e⟩
    split at e
    · rename_i hf
      injection e with e
      subst e
      exact ⟨by simp, by simpa using hk, hf, rfl⟩
    · cases e
  · rintro ⟨h0, h1, h2, h3⟩
    refine ⟨p.1.toNat, by omega, ?_⟩
    have e : ((p.1.toNat : Nat) : Int) = p.1 := by omega
    rw [e, if_pos h2, ← h3]
theorem acc_sorted (f : Int → Int) : ∀ n, (accL f n).Pairwise ltK
  | 0 => by simp [accL]
  | n + 1 => by
    rw [accL_succ, List.pairwise_append]
    refine ⟨acc_sorted f n, by split <;> simp, fun a ha b hb => ?_⟩
    have h1 := (acc_mem.1 ha).2.1
    split at hb
    · simp at hb; subst hb; exact h1
    · simp at hb
theorem acc_mapB {f : Int → Int} {n : Nat} (hn : n ≤ 16) (hf : ∀ k, f k ≤ 9999) : mapB (accL f n) = true := by
  refine pair_mapB (fun p hp => ?_) (acc_sorted f n)
  obtain ⟨h1, h2, h3, h4⟩ := acc_mem.1 hp
  have := hf p.1
  exact ⟨⟨h1, by omega⟩, by omega, by omega⟩
/-- the value of a key in a sorted list -/
theorem vIn_mem : ∀ {l : List (Int × Int)}, l.Pairwise ltK → ∀ {p : Int × Int}, p ∈ l → vIn l p.1 = p.2
  | q :: r, h, p, hp => by
    obtain ⟨h1, h2⟩ := List.pairwise_cons.1 h
    rw [vIn]
    rcases List.mem_cons.1 hp with e | e
    · subst e; rw [if_pos rfl]
    · have : q.1 < p.1 := h1 _ e
      rw [if_neg (by omega)]
      exact vIn_mem h2 e
theorem vIn_out : ∀ {l : List (Int × Int)} {k : Int}, (∀ p ∈ l, p.1 ≠ k) → vIn l k = -1
  | [], _, _ => rfl
  | q :: r, k, h => by rw [vIn, if_neg (h q (by simp))]; exact vIn_out (fun p hp => h p (by simp [hp]))
theorem vIn_acc (f : Int → Int) (n : Nat) (k : Int) : vIn (accL f n) k = if 0 ≤ k ∧ k < n ∧ 0 ≤ f k then f k else -1 := by
  by_cases h : 0 ≤ k ∧ k < n ∧ 0 ≤ f k
  · rw [if_pos h]
    exact vIn_mem (p := (k, f k)) (acc_sorted f n) (acc_mem.2 ⟨h.1, h.2.1, h.2.2, rfl⟩)
  · rw [if_neg h]
    refine vIn_out (fun p hp e => h ?_)
    obtain ⟨h1, h2, h3, _⟩ := acc_mem.1 hp
    rw [e] at h1 h2 h3
    exact ⟨h1, h2, h3⟩
end Go.Proofs.Ytlbmcdoldnajoaa
namespace Go.Proofs.Ytlbmcdoldnajoaa
open Go.RowKit
theorem stepsV_own {w : World} {B : Nat} {v : Value} {l : List St} (h : w.ownsRow B 40 4 v l.length (stCells l)) : StepsV w v l := by
  rcases h.2 with ⟨rfl, h0⟩ | ⟨g, cap, cur, rfl, _, hh, h1, _, h2, h3⟩
  · obtain rfl : l = [] := List.eq_nil_of_length_eq_zero h0
    exact ⟨none, 0, rfl, Or.inl rfl⟩
  · refine ⟨_, cap, rfl, Or.inr ⟨g, 0, rfl, blk_lt hh, stepsAt_of_row (rest := cur.toList.drop (l.length * 4)) (t := 40) (fr := (0, 0)) ?_⟩⟩
    rw [hh, ← h3, List.take_append_drop]
theorem mkSt_ok (x0 x1 x2 x3 : Int) (i n : Nat) : stB (mkSt x0 x1 x2 x3 i n 0 16) i n = true := by
  have a1 := pickI_lo x0 (n := 12) (by omega)
  have a2 := pickI_hi x0 (n := 12) (by omega)
  have b1 := pickI_lo x1 (n := 4) (by omega)
  have b2 := pickI_hi x1 (n := 4) (by omega)
  have c1 := pickI_lo x2 (n := 16) (by omega)
  have c2 := pickI_hi x2 (n := 16) (by omega)
  have d1 := pickI_lo x3 (n := 16) (by omega)
  have d2 := pickI_hi x3 (n := 16) (by omega)
  have e1 := pickI_lo x2 (n := 1000) (by omega)
  have e2 := pickI_hi x2 (n := 1000) (by omega)
  have f1 := pickI_lo x2 (n := 4) (by omega)
  have f2 := pickI_hi x2 (n := 4) (by omega)
  unfold mkSt
  simp only
  generalize pickI x0 12 = y at *
  rcases (show y = 0 ∨ y = 1 ∨ y = 2 ∨ y = 3 ∨ y = 4 ∨ y = 5 ∨ y = 6 ∨ y = 7 ∨ y = 8 ∨ y = 9 ∨ y = 10 ∨ y = 11 by omega) with rfl | rfl | rfl | rfl | rfl | rfl | rfl | rfl | rfl | rfl | rfl | rfl
  · simp [stB, stepB, regB, inB]; omega
  · simp [stB, stepB, regB, keyB]; omega
  · simp [stB, stepB, regB, keyB]; omega
  · simp [stB, stepB, keyB]; omega
  · simp; split <;> (simp [stB, stepB, regB, keyB]; omega)
  · simp; split <;> (simp [stB, stepB, regB, keyB]; omega)
  · simp [stB, stepB, regB]; omega
  · simp [stB, stepB, regB]; omega
  · simp
    split
    · simp [stB, stepB, regB]; omega
    · have g1 := pickI_lo x2 (n := (n : Int) - i - 1) (by omega)
      have g2 := pickI_hi x2 (n := (n : Int) - i - 1) (by omega)
      simp [stB, stepB, regB, inB]; omega
  · simp
    split
    · simp [stB, stepB, regB]; omega
    · have g1 := pickI_lo x2 (n := (i : Int)) (by omega)
      have g2 := pickI_hi x2 (n := (i : Int)) (by omega)
      simp [stB, stepB, regB, inB]; omega
  · simp [stB, stepB, regB]; omega
  · simp [stB, stepB]
theorem mkL_len (xs : List Int) (lo kn : Int) : (mkL xs lo kn).length = mkN xs := mkT_len _ _ _ _ _
theorem mkL_job (xs : List Int) : jobB (mkL xs 0 16) = true := by
  have hl := mkL_len xs 0 16
  have h32 : mkN xs ≤ 32 := Nat.min_le_left _ _
  simp only [jobB, Bool.and_eq_true, decide_eq_true_eq, List.all_eq_true, List.mem_range]
  refine ⟨by omega, fun i hi => ?_⟩
  rw [hl] at hi ⊢
  have e : (mkL xs 0 16).getD i stz = stAtL xs (mkN xs) 0 16 i := by simp [mkL, mkT, List.getD, hi]
  rw [e]
  exact mkSt_ok _ _ _ _ i (mkN xs)
/-- all that a good run hands back, plainly -/
theorem run_facts {l : List St} {ml : List (Int × Int)} {f : Int} (hj : jobB l = true) (hm : mapB ml = true) (h1 : 1 ≤ f) (h2 : f ≤ 200) :
    runErr l ml f = 0 ∧ runTries l ml f = 1 ∧ runSt l ml f = endState l (runMo l ml f) ∧ runTold l ml f = (runMo l ml f).told ∧ runMap l ml f = listOf (mapAfter l (vIn ml) (runMo l ml f)) := by
  have h := runErr_ok (l := l) (ml := ml) hj hm h1 h2
  simp [runTries, runSt, runTold, runMap, h]
/-- the length of a list that came in is within its room -/
theorem open_room {H : Type} {enc : TypeId × Value → H} {w : World} {base : Nat} {spare : Nat → Bool} {held : Bool} {t e : TypeId} {fuel : Nat} {v : Value} {x : DataW H × List MemPlace} (ht : Try.prog.underlying t = some (.slice e)) (h : DataW.trod enc Try.prog w base spare held fuel t [v] = some x) :
    ∀ ao n cap, v = .slice ao n cap → n ≤ cap := by
  intro ao n cap hv
  rcases Go.Deep.open_slice ht h with ⟨hc, _⟩ | ⟨a, len, cap', m, n', D, Pl, hc, hb, hl, hm, hmm, hx, hall⟩
  · rw [hv] at hc; simp at hc; omega
  · rw [hv] at hc; simp at hc; omega
end Go.Proofs.Ytlbmcdoldnajoaa

namespace Go.Proofs.Ytlbmcdoldnajoaa
/-- N attempts, numbered by when they were found good: how many were good when each began; what it read; what it wrote; none was CLASH, PIVOT or OUTER -/
structure GoodOrd (N : Nat) (beg : Nat → Nat) (R W : Nat → Nat → Bool) : Prop where
  begle : ∀ t, t < N → beg t ≤ t
  clash : ∀ t u, t < N → u < t → beg t ≤ u → ∀ k, ¬ (W u k = true ∧ W t k = true)
  pivot : ∀ t v u, t < N → v ≤ u → u < t → beg t ≤ v → ∀ k k', ¬ (W v k = true ∧ R t k = true ∧ R u k' = true ∧ W t k' = true)
  outer : ∀ t u v, t < N → u < t → beg t ≤ u → v < u → beg u ≤ v → ∀ k k', W u k = true → R t k = true → W v k' = true → R u k' = true → (∃ j, W t j = true) ∨ v < beg t → False
/-- i must stand ahead of j -/
def Ahead (beg : Nat → Nat) (R W : Nat → Nat → Bool) (i j : Nat) : Prop :=
  i ≠ j ∧ ((i < j ∧ ∃ k, W i k = true ∧ W j k = true) ∨ (i < beg j ∧ ∃ k, W i k = true ∧ R j k = true) ∨ (beg i ≤ j ∧ ∃ k, R i k = true ∧ W j k = true))
theorem least_of (S : Nat → Prop) : ∀ n, S n → ∃ m, S m ∧ ∀ i, S i → m ≤ i := by
  intro n
  induction n using Nat.strongRecOn with
  | ind n ih =>
    intro hn
    by_cases h : ∃ m, m < n ∧ S m
    · obtain ⟨m, hm, hs⟩ := h
      exact ih m hm hs
    · exact ⟨n, hn, fun i hi => Nat.le_of_not_lt (fun hlt => h ⟨i, hlt, hi⟩)⟩
/-- among any of them there is one that need stand behind none of the others -/
theorem source {N : Nat} {beg : Nat → Nat} {R W : Nat → Nat → Bool} (h : GoodOrd N beg R W) (S : Nat → Prop) (hS : ∀ i, S i → i < N) (hne : ∃ i, S i) : ∃ i, S i ∧ ∀ j, S j → ¬ Ahead beg R W j i := by
  refine Classical.byContradiction fun hno => ?_
  have hpred : ∀ i, S i → ∃ j, S j ∧ Ahead beg R W j i := fun i hi => Classical.byContradiction fun hc => hno ⟨i, hi, fun j hj ha => hc ⟨j, hj, ha⟩⟩
  obtain ⟨n, hn⟩ := hne
  obtain ⟨v, hv, hmin⟩ := least_of S n hn
  obtain ⟨u, hu, huv, hU⟩ := hpred v hv
  have hvu : v < u := by have := hmin u hu; omega
  have hbv := h.begle v (hS v hv)
  -- u read past v
  obtain ⟨hb, k, hk1, hk2⟩ : beg u ≤ v ∧ ∃ k, R u k = true ∧ W v k = true := by
    rcases hU with ⟨h1, _⟩ | ⟨h1, _⟩ | h1
    · omega
    · omega
    · exact h1
  obtain ⟨t, ht, htu, hT⟩ := hpred u hu
  have hvt := hmin t ht
  -- t read past u
  obtain ⟨hb2, k2, hk3, hk4⟩ : beg t ≤ u ∧ ∃ k, R t k = true ∧ W u k = true := by
    rcases hT with ⟨h1, k', h2, h3⟩ | ⟨h1, _⟩ | h1
    · exact absurd ⟨h2, h3⟩ (h.clash u t (hS u hu) h1 (by omega) k')
    · omega
    · exact h1
  by_cases hlt : t < u
  · exact h.pivot u v t (hS u hu) hvt hlt hb k k2 ⟨hk2, hk1, hk3, hk4⟩
  · have hut : u < t := by omega
    refine h.outer t u v (hS t ht) hut hb2 hvu hb k2 k hk4 hk3 hk2 hk1 ?_
    by_cases hw : ∃ j, W t j = true
    · exact Or.inl hw
    · right
      obtain ⟨s, hs, hst, hSs⟩ := hpred t ht
      have hvs := hmin s hs
      rcases hSs with ⟨_, k', _, h3⟩ | ⟨h1, _⟩ | ⟨_, k', _, h3⟩
      · exact absurd ⟨k', h3⟩ hw
      · omega
      · exact absurd ⟨k', h3⟩ hw
/-- there is an order -/
theorem order {N : Nat} {beg : Nat → Nat} {R W : Nat → Nat → Bool} (h : GoodOrd N beg R W) : ∀ (n : Nat) (L : List Nat), L.length = n → L.Nodup → (∀ i ∈ L, i < N) → ∃ σ : List Nat, σ.Perm L ∧ σ.Pairwise (fun a b => ¬ Ahead beg R W b a)
  | 0, L, hn, _, _ => by
    obtain rfl := List.eq_nil_of_length_eq_zero hn
    exact ⟨[], List.Perm.refl _, List.Pairwise.nil⟩
  | n + 1, L, hn, hd, hL => by
    have hne : ∃ i, i ∈ L := by
      cases L with
      | nil => simp at hn
      | cons a r => exact ⟨a, by simp⟩
    obtain ⟨i, hi, hsrc⟩ := source h (fun i => i ∈ L) hL hne
    obtain ⟨σ, hp, hw⟩ := order h n (L.erase i) (by rw [List.length_erase_of_mem hi, hn]; rfl) (hd.erase i) (fun j hj => hL j (List.mem_of_mem_erase hj))
    refine ⟨i :: σ, (List.Perm.cons i hp).trans (List.perm_cons_erase hi).symm, List.pairwise_cons.2 ⟨fun b hb => ?_, hw⟩⟩
    exact hsrc b (List.mem_of_mem_erase (hp.mem_iff.1 hb))
/-- the value of a key behind attempts in an order: of the last one that wrote it -/
def valK (P : Nat → Int → Option Int) (k : Int) (v : Int) (τ : List Nat) : Int := τ.foldl (fun v i => (P i k).getD v) v
end Go.Proofs.Ytlbmcdoldnajoaa

namespace Go.Proofs.Ytlbmcdoldnajoaa
theorem jobP_at {l : List St} (h : jobB l = true) : ∀ i, i < l.length → stB (l.getD i stz) i l.length = true := by
  simp only [jobB, Bool.and_eq_true, decide_eq_true_eq, List.all_eq_true, List.mem_range] at h
  exact h.2
end Go.Proofs.Ytlbmcdoldnajoaa

namespace Go.Proofs.Ytlbmcdoldnajoaa
def gAt (gs : List GoodM) (i : Nat) : GoodM := gs.getD i good0
def gP (gs : List GoodM) (i : Nat) : Int → Option Int := (gAt gs i).puts
structure GoodsOK (fuel : Nat) (gs : List GoodM) (L : Nat → List St) (X : Nat → Mo) : Prop where
  job : ∀ i, i < gs.length → jobB (L i) = true
  run : ∀ i, i < gs.length → X i = play (L i) (mapF (gs.take (gAt gs i).beg)) fuel mo0
  read : ∀ i, i < gs.length → (gAt gs i).read = (X i).read
  puts : ∀ i, i < gs.length → gP gs i = if endState (L i) (X i) = 3 then (X i).puts else fun _ => none
  ord : GoodOrd gs.length (fun i => (gAt gs i).beg) (fun i k => (gAt gs i).read.getD k false) (fun i k => (gP gs i k).isSome)
  keys : ∀ i (k v : Int), i < gs.length → gP gs i k = some v → 0 ≤ k ∧ k ≤ 15 ∧ -1 ≤ v ∧ v ≤ 9999
/-- the map behind attempts in an order -/
def chainMap (gs : List GoodM) (τ : List Nat) (k : Int) : Int := valK (gP gs) k (-1) τ
theorem chainMap_snoc (gs : List GoodM) (τ : List Nat) (i : Nat) : chainMap gs (τ ++ [i]) = see (chainMap gs τ) (gP gs i) := by
  funext k
  simp [chainMap, valK, see]
theorem mapF_take (gs : List GoodM) : ∀ n, n ≤ gs.length → mapF (gs.take n) = chainMap gs (List.range n)
  | 0, _ => rfl
  | n + 1, h => by
    have hn : n < gs.length := h
    rw [← List.take_append_getElem hn, mapF_snoc, mapF_take gs n (by omega), List.range_succ, chainMap_snoc]
    have : gP gs n = gs[n].puts := by simp [gP, gAt, List.getD, hn]
    rw [this]
theorem chain_bd {fuel : Nat} {gs : List GoodM} {L : Nat → List St} {X : Nat → Mo} (h : GoodsOK fuel gs L X) (k : Int) : ∀ (τ : List Nat) (v : Int), (∀ i ∈ τ, i < gs.length) → (-1 ≤ v ∧ v ≤ 9999) ∧ (¬ (0 ≤ k ∧ k ≤ 15) → v = -1) → (-1 ≤ valK (gP gs) k v τ ∧ valK (gP gs) k v τ ≤ 9999) ∧ (¬ (0 ≤ k ∧ k ≤ 15) → valK (gP gs) k v τ = -1)
  | [], _, _, hv => hv
  | i :: r, v, hi, hv => by
    refine chain_bd h k r ((gP gs i k).getD v) (fun j hj => hi j (by simp [hj])) ?_
    cases e : gP gs i k with
    | none => exact hv
    | some u =>
      have := h.keys i k u (hi i (by simp)) e
      exact ⟨⟨this.2.2.1, this.2.2.2⟩, fun hn => absurd ⟨this.1, this.2.1⟩ hn⟩
/-- a map of that kind, as a list and back -/
theorem vIn_listOf {f : Int → Int} (h1 : ∀ k, -1 ≤ f k) (h2 : ∀ k, ¬ (0 ≤ k ∧ k ≤ 15) → f k = -1) : vIn (listOf f) = f := by
  funext k
  rw [listOf_acc, vIn_acc]
  split
  · rfl
  · rename_i hn
    by_cases hk : 0 ≤ k ∧ k ≤ 15
    · have := h1 k; omega
    · exact (h2 k hk).symm
theorem chain_list {fuel : Nat} {gs : List GoodM} {L : Nat → List St} {X : Nat → Mo} (h : GoodsOK fuel gs L X) {τ : List Nat} (hτ : ∀ i ∈ τ, i < gs.length) : vIn (listOf (chainMap gs τ)) = chainMap gs τ ∧ mapB (listOf (chainMap gs τ)) = true := by
  have hb : ∀ k, (-1 ≤ chainMap gs τ k ∧ chainMap gs τ k ≤ 9999) ∧ (¬ (0 ≤ k ∧ k ≤ 15) → chainMap gs τ k = -1) := fun k => chain_bd h k τ (-1) hτ ⟨⟨by omega, by omega⟩, fun _ => rfl⟩
  exact ⟨vIn_listOf (fun k => (hb k).1.1) (fun k => (hb k).2), by rw [listOf_acc]; exact acc_mapB (by omega) (fun k => (hb k).1.2)⟩
end Go.Proofs.Ytlbmcdoldnajoaa
