/- Plain facts for 'ran': how long what comes out is; the law's World behind calls that write nothing of it. -/
import Derived.Test.YtlbmcdoldnajoaaCellsP
namespace Go.Proofs.Ytlbmcdoldnajoaa
open Go.RowKit

theorem bec_told (x : Mo) (a v : Int) : (bec x a v).told = x.told := by unfold bec; split <;> rfl
theorem len_ite {p : Prop} [Decidable p] {a b : Mo} {n : Nat} (ha : a.told.length ≤ n) (hb : b.told.length ≤ n) : (if p then a else b).told.length ≤ n := by split <;> assumption
theorem stp_told (s : St) (m : Int → Int) (x : Mo) : (stp s m x).told.length ≤ x.told.length + 1 := by
  have h : ∀ y : Mo, y.told = x.told → y.told.length ≤ x.told.length + 1 := fun y e => by rw [e]; omega
  unfold stp
  simp only
  refine len_ite (h _ rfl) (len_ite (h _ rfl) (len_ite (h _ rfl) (len_ite (h _ rfl) (len_ite (h _ (bec_told _ _ _)) (len_ite (h _ (bec_told _ _ _)) (len_ite (h _ (bec_told _ _ _)) (len_ite (h _ (bec_told _ _ _))
    (len_ite (len_ite (h _ rfl) (h _ rfl)) (len_ite (len_ite (h _ rfl) (h _ rfl)) (len_ite ?_ (len_ite (h _ rfl) (h _ rfl))))))))))))
  simp
theorem play_told (l : List St) (m : Int → Int) : ∀ (n : Nat) (x : Mo), (play l m n x).told.length ≤ x.told.length + n
  | 0, _ => Nat.le_refl _
  | n + 1, x => by
    unfold play
    split
    · have := play_told l m n (stp (l.getD x.pc stz) m x)
      have := stp_told (l.getD x.pc stz) m x
      omega
    · omega
theorem runErr_fuelB {l : List St} {ml : List (Int × Int)} {fuel : Int} (h : runErr l ml fuel = 0) : fuel ≤ 200 := by
  unfold runErr at h
  split at h
  · cases h
  · split at h
    · cases h
    · split at h
      · cases h
      · omega
theorem runTold_len (l : List St) (ml : List (Int × Int)) (fuel : Int) : (runTold l ml fuel).length ≤ 200 := by
  unfold runTold
  split
  · rename_i h
    have h1 := runErr_fuelB h
    have := play_told l (vIn ml) fuel.toNat mo0
    unfold runMo
    simp [mo0] at this ⊢
    omega
  · simp
theorem runMap_len (l : List St) (ml : List (Int × Int)) (fuel : Int) : (runMap l ml fuel).length ≤ 16 := by
  unfold runMap
  split
  · rw [listOf_acc]; exact accL_len _ _
  · simp

theorem PairsV.wide {w : World} {B B' : Nat} {v : Value} {l : List (Int × Int)} (h : PairsV w B v l) (hB : B ≤ B') : PairsV w B' v l := by
  obtain ⟨ao, cap, rfl, hm, h⟩ := h
  refine ⟨ao, cap, rfl, hm, ?_⟩
  rcases h with h | ⟨b, off, h1, h2, h3⟩
  · exact Or.inl h
  · exact Or.inr ⟨b, off, h1, by omega, h3⟩

theorem intsV_own {w : World} {B : Nat} {v : Value} {xs : List Int} (h : w.ownsRow B 3 1 v xs.length (xs.map (Value.int .i64))) (hl : xs.length ≤ 140737488351232) : IntsV w v xs := by
  rcases h.2 with ⟨rfl, h0⟩ | ⟨g, cap, cur, rfl, _, hh, _⟩
  · have : xs = [] := List.eq_nil_of_length_eq_zero h0
    subst this
    exact ⟨none, 0, rfl, Nat.zero_le _, Or.inl rfl⟩
  · refine ⟨_, cap, rfl, hl, Or.inr ⟨g, 0, rfl, blk_lt hh, fun i hi => ?_⟩⟩
    rw [Nat.zero_add, h.cellAt i (by omega)]
    simp [List.getD, hi]

theorem pairsV_own {w : World} {B : Nat} {v : Value} {xs : List (Int × Int)} (h : w.ownsRow B 42 2 v xs.length (prCells xs)) (hl : xs.length ≤ 140737488351232) : PairsV w w.heap.size v xs := by
  obtain ⟨ao, cap, rfl, h1⟩ := owns_pairs h
  refine ⟨ao, cap, rfl, hl, ?_⟩
  rcases h1 with ⟨h1, _⟩ | ⟨g, h1, _, h2, h3⟩
  · exact Or.inl h1
  · exact Or.inr ⟨g, 0, h1, h2, h3⟩

theorem LW.below {B : Nat} {W W' : World} {pb : Nat} {dv : Value} {one : Bool} {iv pv : Value} {vs ps : List Value} (h : LW B W pb dv one iv pv vs ps) (hb : Below W.heap.size W W') : LW B W' pb dv one iv pv vs ps :=
  ⟨h.bpb, (hb.block _ (blk_lt h.blk)).trans h.blk, owns_keep h.ints hb, owns_keep h.prs hb, fun i v hv => by obtain ⟨n, h1, h2⟩ := h.ki i v hv; exact ⟨n, h1, owns_keep h2 hb⟩, fun i v hv => by obtain ⟨n, h1, h2⟩ := h.kp i v hv; exact ⟨n, h1, owns_keep h2 hb⟩, h.i4, h.p4⟩

/-- an owned row's block is there -/
theorem owns_lt {w : World} {B : Nat} {e : TypeId} {s : Nat} {v : Value} {n : Nat} {xs : List Value} (h : w.ownsRow B e s v n xs) {k : Nat} (hk : v.ownBlock = some k) : B ≤ k ∧ k < w.heap.size := by
  rcases h.2 with ⟨rfl, _⟩ | ⟨g, cap, cur, rfl, hb, hh, _⟩
  · cases hk
  · injection hk with hk; have hk : g = k := hk; subst hk; exact ⟨hb, blk_lt hh⟩

theorem own_types {w : World} {B B' : Nat} {e e' : TypeId} {s s' : Nat} {u v : Value} {n n' : Nat} {xs ys : List Value} (h : w.ownsRow B e s u n xs) (h' : w.ownsRow B' e' s' v n' ys) (he : e ≠ e') {k : Nat} (hu : u.ownBlock = some k) (hv : v.ownBlock = some k) : False := by
  rcases h'.2 with ⟨rfl, _⟩ | ⟨g, cap, cur, rfl, _, hh, _⟩
  · cases hv
  · injection hv with hv; have hv : g = k := hv; subst hv; exact owns_ne h hh he hu

/-- a list that is newer than the law's World -/
theorem LW.freshI {B C : Nat} {W W' : World} {pb : Nat} {dv : Value} {one : Bool} {iv pv : Value} {vs ps : List Value} (h : LW B W pb dv one iv pv vs ps) {e : TypeId} {s : Nat} {lv : Value} {n : Nat} {xs : List Value} (hl : W'.ownsRow C e s lv n xs) (hC : W.heap.size ≤ C) : FreshTo vs lv := fun i v k hv hk e => by
  obtain ⟨n, _, h2⟩ := h.ki i v hv
  have := owns_lt h2 hk
  have := owns_lt hl e
  omega
theorem LW.freshP {B C : Nat} {W W' : World} {pb : Nat} {dv : Value} {one : Bool} {iv pv : Value} {vs ps : List Value} (h : LW B W pb dv one iv pv vs ps) {e : TypeId} {s : Nat} {lv : Value} {n : Nat} {xs : List Value} (hl : W'.ownsRow C e s lv n xs) (hC : W.heap.size ≤ C) : FreshTo ps lv := fun i v k hv hk e => by
  obtain ⟨n, _, h2⟩ := h.kp i v hv
  have := owns_lt h2 hk
  have := owns_lt hl e
  omega

theorem StepsAt.same {w w' : World} {b off : Nat} {l : List St} (h : StepsAt w b off l) (hb : w'.heap[b]? = w.heap[b]?) : StepsAt w' b off l := fun i hi => by
  have e : ∀ o, w'.cell? ⟨b, o, none⟩ = w.cell? ⟨b, o, none⟩ := fun o => World.cell?_of_block (w := w) hb
  obtain ⟨h0, h1, h2, h3⟩ := h i hi
  exact ⟨(e _).trans h0, (e _).trans h1, (e _).trans h2, (e _).trans h3⟩

theorem owns_same {w w' : World} {B : Nat} {e : TypeId} {s g n cap : Nat} {xs : List Value} (h : w.ownsRow B e s (.slice (some ⟨g, 0, none⟩) n cap) n xs) (hb : w'.heap[g]? = w.heap[g]?) : w'.ownsRow B e s (.slice (some ⟨g, 0, none⟩) n cap) n xs := by
  refine ⟨h.1, ?_⟩
  rcases h.2 with ⟨hv, _⟩ | ⟨g', cap', cur, hv, hB, hh, r⟩
  · cases hv
  · have : g = g' := by injection hv with h1; injection h1 with h1; injection h1
    subst this
    exact Or.inr ⟨g, cap', cur, hv, hB, hb.trans hh, r⟩

/-- the program's own Run answers as the document's -/
def RunOK : Prop := ∀ (v mv : Value) (l : List St) (ml : List (Int × Int)) (fuel : Int) (w : World), StepsV w v l → PairsV w w.heap.size mv ml →
    Calls Try.prog 20 #[v, mv, .int .i64 fuel] w fun e w' => Ran l ml fuel w e w'

/-- what 'ran' leaves -/
def RanP (W0 : World) (pb : Nat) (dv : Value) (one : Bool) (vs ps : List Value) (e : Ending) (w' : World) : Prop :=
  e = .returned (.bool true) ∧ ∃ iv' pv' vs' ps', LW W0.heap.size w' pb dv one iv' pv' vs' ps' ∧ vs'.length = vs.length + 4 ∧ ps'.length = ps.length + 4 ∧ Below W0.heap.size W0 w'

theorem Try.sizePair : (Try.prog.info? 42).map (·.size) = some 2 := by kernel_rfl

end Go.Proofs.Ytlbmcdoldnajoaa
