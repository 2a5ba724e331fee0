/- The document's own 'sees'. -/
import Derived.Test.YtlbmcdoldnajoaaMom
namespace Go.Proofs.Ytlbmcdoldnajoaa
open Go.RowKit

theorem lastP_skip (l m : List (Int × Int)) (k : Int) (h : ∀ p ∈ m, p.1 ≠ k) : lastP (l ++ m) k = lastP l k := by
  induction m generalizing l with
  | nil => simp
  | cons p r ih =>
    have e : l ++ p :: r = (l ++ [p]) ++ r := by simp
    rw [e, ih _ (fun q hq => h q (by simp [hq])), lastP_snoc, if_neg (h p (by simp))]

theorem lastP_at {l : List (Int × Int)} {k : Int} {n : Nat} (hn : n < l.length) (hk : (l.getD n pz).1 = k) (h : ∀ t, n < t → t < l.length → (l.getD t pz).1 ≠ k) : lastP l k = some (l.getD n pz).2 := by
  have e : l = l.take n ++ [l[n]] ++ l.drop (n + 1) := by
    rw [List.append_assoc, List.singleton_append, ← List.drop_eq_getElem_cons hn, List.take_append_drop]
  have e2 : l.getD n pz = l[n] := by simp [List.getD, hn]
  rw [e2] at hk ⊢
  have e3 : lastP (l.take n ++ [l[n]] ++ l.drop (n + 1)) k = some l[n].2 := by
    rw [lastP_skip, lastP_snoc, if_pos hk]
    intro p hp
    obtain ⟨i, hi, rfl⟩ := List.getElem_of_mem hp
    simp at hi
    have := h (n + 1 + i) (by omega) (by omega)
    simpa [List.getD, show n + 1 + i < l.length by omega] using this
  rw [← e] at e3
  exact e3

theorem lastP_none {l : List (Int × Int)} {k : Int} (h : ∀ t, t < l.length → (l.getD t pz).1 ≠ k) : lastP l k = none := by
  have := lastP_skip [] l k (fun p hp => by
    obtain ⟨i, hi, rfl⟩ := List.getElem_of_mem hp
    simpa [List.getD, hi] using h i hi)
  simpa [lastP_nil] using this

/-- pairs in a row that is owned -/
theorem owns_pairs {w : World} {base : Nat} {v : Value} {pl : List (Int × Int)} {e : TypeId} (h : w.ownsRow base e 2 v pl.length (prCells pl)) :
    ∃ ao cap, v = .slice ao pl.length cap ∧ ((pl = [] ∧ ao = none) ∨ ∃ g, ao = some ⟨g, 0, none⟩ ∧ base ≤ g ∧ g < w.heap.size ∧ PairsAt w g 0 pl) := by
  rcases h.2 with ⟨rfl, h0⟩ | ⟨g, cap, cur, rfl, hb, hh, hn, _, hs, ht⟩
  · have : pl = [] := List.eq_nil_of_length_eq_zero h0
    subst this
    exact ⟨none, 0, rfl, Or.inl ⟨rfl, rfl⟩⟩
  · refine ⟨_, cap, rfl, Or.inr ⟨g, rfl, hb, blk_lt hh, fun i hi => ?_⟩⟩
    obtain ⟨g0, g1⟩ := prCells_get pl i hi
    rw [← ht] at g0 g1
    rw [List.getElem?_take_of_lt (by omega)] at g0 g1
    rw [blk_cell hh, blk_cell hh, Nat.zero_add]
    exact ⟨by simpa using g0, by simpa using g1⟩

set_option maxRecDepth 100000 in
set_option maxHeartbeats 1000000 in
theorem sees_at (B : Nat) (w : World) (px rb db : Nat) (g cap : Nat) (tv : Value) (x : Mo) (pl : List (Int × Int)) (mv : Value) (ml : List (Int × Int)) (k : Int) (n : Nat) (hn : n = pl.length) (hn1 : n ≤ 1000)
    (h : Mom B w px rb db (.slice (some ⟨g, 0, none⟩) n cap) tv x pl) (hp : PairsAt w g 0 pl) (hm : PairsV w B mv ml) (hk : 0 ≤ k) (hk' : k ≤ 15) :
    Calls Try.prog 115 #[.pointer (some ⟨px, 0, none⟩), mv, .int .i64 k] w fun e w' => e = .returned (.int .i64 (see (vIn ml) x.puts k)) ∧ Mom B w' px rb db (.slice (some ⟨g, 0, none⟩) n cap) tv { x with read := mark x.puts x.read k } pl ∧ Fr (mom3 px rb db) w w' := by
  obtain ⟨kn, rfl⟩ : ∃ kn : Nat, k = kn := ⟨k.toNat, by omega⟩
  have c3 := h.cPuts
  have c4 := h.cRead
  have cd := h.cD (a := kn) (by omega)
  have fd := h.fDb kn
  have H : Hid (Mom B w px rb db (.slice (some ⟨g, 0, none⟩) n cap) tv x pl) := h
  have HM : Hid (PairsV w B mv ml) := hm
  have HN : Hid (n = pl.length) := hn
  clear h hm hn
  go_enter Try.func115, Try.ntmps115
  go_wp2
  go_loop [7] (fun i => ∃ j : Nat, j ≤ n ∧ i = .int .i64 ((j : Int) - 1) ∧ (∀ t, j ≤ t → t < n → (pl.getD t pz).1 ≠ kn)) (fun i => (intOf i + 1).toNat)
  case atStart => exact ⟨n, Nat.le_refl _, rfl, fun t h1 h2 => by omega⟩
  case round =>
    obtain ⟨j, hj, rfl, hall⟩ := hrel
    have HA : Hid (∀ t, j ≤ t → t < n → (pl.getD t pz).1 ≠ kn) := hall
    clear hall
    match j, hj, HA with
    | 0, _, HA =>
      have e0 : ((0 : Nat) : Int) - 1 = -1 := by omega
      rw [e0]
      go_wp2_with (go_at_call 107; refine (valueIn_any _ B ml _ _ (HM.out.below ((Below.refl B _).setCell (p := ⟨db, _, none⟩) H.out.bdb _) (Nat.le_refl _))).mono ?_; rintro e w' ⟨rfl, rfl⟩)
      go_ret
      have hnone : x.puts kn = none := by rw [← H.out.last]; exact lastP_none (fun t ht => HA.out t (Nat.zero_le _) (by have := HN.out; omega))
      refine ⟨ret_int (by simp [see, hnone]), (H.out.setD kn true).congr (by simp [mark, hnone]), (Fr.refl _ _).setCell (p := ⟨db, _, none⟩) (fun _ => Or.inr (Or.inr rfl)) _⟩
    | j + 1, hj, HA =>
      have hlt' : j < pl.length := by rw [← HN.out]; omega
      obtain ⟨c0, c1⟩ := hp j hlt'
      obtain ⟨p, hp'⟩ : ∃ p, p = pl.getD j pz := ⟨_, rfl⟩
      rw [← hp'] at c0 c1
      rw [Nat.zero_add] at c0 c1
      have HP : Hid (p = pl.getD j pz) := hp'
      clear hp'
      obtain ⟨p1, p2⟩ := p
      simp only at c0 c1
      have ej : ((j + 1 : Nat) : Int) - 1 = (j : Int) := by omega
      rw [ej]
      have hjn : j < n := by omega
      by_cases hkk : p1 = kn
      · subst hkk
        go_wp2
        go_ret
        have hsome : x.puts kn = some p2 := by
          rw [← H.out.last, lastP_at hlt' (by rw [← HP.out]) (fun t h1 h2 => HA.out t h1 (by have := HN.out; omega)), ← HP.out]
        refine ⟨ret_int (by simp [see, hsome]), H.out.congr (by simp [mark, hsome]), Fr.refl _ _⟩
      · go_wp2
        go_round
        case rel =>
          refine ⟨j, by omega, by go_num, fun t h1 h2 => ?_⟩
          by_cases htj : t = j
          · subst htj; rw [← HP.out]; exact hkk
          · exact HA.out t (by omega) h2
        case measure => simp [intOf]

set_option maxRecDepth 100000 in
set_option maxHeartbeats 1000000 in
theorem sees_none (B : Nat) (w : World) (px rb db : Nat) (tv : Value) (x : Mo) (cap : Nat) (mv : Value) (ml : List (Int × Int)) (k : Int)
    (h : Mom B w px rb db (.slice none 0 cap) tv x []) (hm : PairsV w B mv ml) (hk : 0 ≤ k) (hk' : k ≤ 15) :
    Calls Try.prog 115 #[.pointer (some ⟨px, 0, none⟩), mv, .int .i64 k] w fun e w' => e = .returned (.int .i64 (see (vIn ml) x.puts k)) ∧ Mom B w' px rb db (.slice none 0 cap) tv { x with read := mark x.puts x.read k } [] ∧ Fr (mom3 px rb db) w w' := by
  obtain ⟨kn, rfl⟩ : ∃ kn : Nat, k = kn := ⟨k.toNat, by omega⟩
  have c3 := h.cPuts
  have c4 := h.cRead
  have cd := h.cD (a := kn) (by omega)
  have fd := h.fDb kn
  have H : Hid (Mom B w px rb db (.slice none 0 cap) tv x []) := h
  have HM : Hid (PairsV w B mv ml) := hm
  clear h hm
  go_enter Try.func115, Try.ntmps115
  go_wp2
  go_loop [7] (fun i => i = .int .i64 (-1)) (fun _ => 0)
  case atStart => rfl
  case round =>
    subst hrel
    go_wp2_with (go_at_call 107; refine (valueIn_any _ B ml _ _ (HM.out.below ((Below.refl B _).setCell (p := ⟨db, _, none⟩) H.out.bdb _) (Nat.le_refl _))).mono ?_; rintro e w' ⟨rfl, rfl⟩)
    go_ret
    have hnone : x.puts kn = none := by rw [← H.out.last]; rfl
    refine ⟨ret_int (by simp [see, hnone]), (H.out.setD kn true).congr (by simp [mark, hnone]), (Fr.refl _ _).setCell (p := ⟨db, _, none⟩) (fun _ => Or.inr (Or.inr rfl)) _⟩

theorem sees_any (B : Nat) (w : World) (px rb db : Nat) (pv tv : Value) (x : Mo) (pl : List (Int × Int)) (mv : Value) (ml : List (Int × Int)) (k : Int) (hn1 : pl.length ≤ 1000)
    (h : Mom B w px rb db pv tv x pl) (hm : PairsV w B mv ml) (hk : 0 ≤ k) (hk' : k ≤ 15) :
    Calls Try.prog 115 #[.pointer (some ⟨px, 0, none⟩), mv, .int .i64 k] w fun e w' => e = .returned (.int .i64 (see (vIn ml) x.puts k)) ∧ Mom B w' px rb db pv tv { x with read := mark x.puts x.read k } pl ∧ Fr (mom3 px rb db) w w' := by
  obtain ⟨ao, cap, rfl, ⟨rfl, rfl⟩ | ⟨g, rfl, _, _, hp⟩⟩ := owns_pairs h.puts
  · exact sees_none B w px rb db tv x cap mv ml k h hm hk hk'
  · exact sees_at B w px rb db g cap tv x pl mv ml k _ rfl hn1 h hp hm hk hk'

end Go.Proofs.Ytlbmcdoldnajoaa
