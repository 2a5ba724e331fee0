/- Pairs in memory; the document's 'valueIn' and 'MapOK'. -/
import Derived.Test.YtlbmcdoldnajoaaModel
import Derived.Test.YtlbmcdoldnajoaaMem
namespace Go.Proofs.Ytlbmcdoldnajoaa
open Go.RowKit

def pz : Int × Int := (0, 0)

/-- from ⟨b, off⟩ on lie the pairs 'l', two cells each -/
def PairsAt (w : World) (b off : Nat) (l : List (Int × Int)) : Prop := ∀ i, i < l.length →
  w.cell? ⟨b, off + i * 2, none⟩ = some (.int .i64 (l.getD i pz).1) ∧ w.cell? ⟨b, off + i * 2 + 1, none⟩ = some (.int .i64 (l.getD i pz).2)

theorem PairsAt.below {w w' : World} {B b off : Nat} {l : List (Int × Int)} (h : PairsAt w b off l) (hb : Below B w w') (hlt : b < B) : PairsAt w' b off l := fun i hi =>
  ⟨(hb.cell (p := ⟨b, _, none⟩) hlt).trans (h i hi).1, (hb.cell (p := ⟨b, _, none⟩) hlt).trans (h i hi).2⟩

/-- the slice value v has the pairs 'l'; they lie below block B -/
def PairsV (w : World) (B : Nat) (v : Value) (l : List (Int × Int)) : Prop := ∃ ao cap, v = .slice ao l.length cap ∧ l.length ≤ 140737488351232 ∧ (l = [] ∨ ∃ b off, ao = some ⟨b, off, none⟩ ∧ b < B ∧ PairsAt w b off l)

theorem PairsV.below {w w' : World} {B B' : Nat} {v : Value} {l : List (Int × Int)} (h : PairsV w B v l) (hb : Below B' w w') (hB : B ≤ B') : PairsV w' B v l := by
  obtain ⟨ao, cap, rfl, hm, h⟩ := h
  refine ⟨ao, cap, rfl, hm, ?_⟩
  rcases h with h | ⟨b, off, h1, h2, h3⟩
  · exact Or.inl h
  · exact Or.inr ⟨b, off, h1, h2, h3.below hb (by omega)⟩

theorem vIn_skip : ∀ (l : List (Int × Int)) (k : Int) (n : Nat), (∀ j, j < n → j < l.length → (l.getD j pz).1 ≠ k) → vIn l k = vIn (l.drop n) k
  | _, _, 0, _ => by simp
  | [], _, n + 1, _ => by simp
  | p :: r, k, n + 1, h => by
    have h0 := h 0 (by omega) (by simp)
    simp only [List.getD_cons_zero] at h0
    rw [vIn, if_neg h0, List.drop_succ_cons]
    exact vIn_skip r k n (fun j hj hl => by simpa using h (j + 1) (by omega) (by simpa using hl))

theorem vIn_at {l : List (Int × Int)} {k : Int} {n : Nat} (hn : n < l.length) (h : ∀ j, j < n → (l.getD j pz).1 ≠ k) (hk : (l.getD n pz).1 = k) : vIn l k = (l.getD n pz).2 := by
  rw [vIn_skip l k n (fun j hj _ => h j hj), List.drop_eq_getElem_cons hn, vIn]
  have e : l.getD n pz = l[n] := by simp [List.getD, hn]
  rw [e] at hk ⊢
  rw [if_pos hk]

theorem vIn_none {l : List (Int × Int)} {k : Int} (h : ∀ j, j < l.length → (l.getD j pz).1 ≠ k) : vIn l k = -1 := by
  rw [vIn_skip l k l.length (fun j hj _ => h j hj)]; simp [vIn]

set_option maxRecDepth 100000 in
set_option maxHeartbeats 400000 in
theorem valueIn_at (b off cap : Nat) (l : List (Int × Int)) (k : Int) (w : World) (hm : l.length ≤ 140737488351232) (hs : PairsAt w b off l) :
    Calls Try.prog 107 #[.slice (some ⟨b, off, none⟩) l.length cap, .int .i64 k] w fun e w' => e = .returned (.int .i64 (vIn l k)) ∧ w' = w := by
  obtain ⟨n, hn⟩ : ∃ n, n = l.length := ⟨_, rfl⟩
  have HN : Hid (n = l.length) := hn
  rw [← hn] at hm ⊢
  clear hn
  go_enter Try.func107, Try.ntmps107
  go_wp2
  go_loop [5] (fun i => ∃ j : Nat, j ≤ n ∧ i = .int .i64 j ∧ (∀ t, t < j → (l.getD t pz).1 ≠ k)) (fun i => n - (intOf i).toNat)
  case atStart => exact ⟨0, Nat.zero_le _, rfl, fun t ht => absurd ht (Nat.not_lt_zero _)⟩
  case round =>
    obtain ⟨j, hj, rfl, hall⟩ := hrel
    have HA : Hid (∀ t, t < j → (l.getD t pz).1 ≠ k) := hall
    clear hall
    by_cases hlt : j < n
    · have hlt' : j < l.length := by rw [← HN.out]; exact hlt
      obtain ⟨c0, c1⟩ := hs j hlt'
      obtain ⟨p, hp⟩ : ∃ p, p = l.getD j pz := ⟨_, rfl⟩
      rw [← hp] at c0 c1
      have HP : Hid (p = l.getD j pz) := hp
      clear hp
      obtain ⟨p1, p2⟩ := p
      simp only at c0 c1
      by_cases hk : p1 = k
      · subst hk
        go_wp2
        go_ret
        exact ⟨ret_int ((vIn_at hlt' HA.out (by rw [← HP.out])).trans (by rw [← HP.out])).symm, rfl⟩
      · go_wp2
        go_round
        case rel =>
          refine ⟨j + 1, by omega, by go_num, fun t ht => ?_⟩
          by_cases htj : t = j
          · subst htj; rw [← HP.out]; exact hk
          · exact HA.out t (by omega)
        case measure => simp [intOf]; omega
    · go_wp2
      go_ret
      exact ⟨ret_int (vIn_none (fun t ht => HA.out t (by have := HN.out; omega))).symm, rfl⟩

set_option maxRecDepth 100000 in
set_option maxHeartbeats 400000 in
theorem valueIn_none (ao : Option Addr) (cap : Nat) (k : Int) (w : World) :
    Calls Try.prog 107 #[.slice ao 0 cap, .int .i64 k] w fun e w' => e = .returned (.int .i64 (-1)) ∧ w' = w := by
  go_enter Try.func107, Try.ntmps107
  go_wp2
  go_loop [5] (fun i => i = .int .i64 0) (fun _ => 0)
  case atStart => rfl
  case round =>
    subst hrel
    go_wp2
    go_ret
    exact ⟨rfl, rfl⟩

theorem valueIn_any (v : Value) (B : Nat) (l : List (Int × Int)) (k : Int) (w : World) (h : PairsV w B v l) :
    Calls Try.prog 107 #[v, .int .i64 k] w fun e w' => e = .returned (.int .i64 (vIn l k)) ∧ w' = w := by
  obtain ⟨ao, cap, rfl, hm, h⟩ := h
  rcases h with rfl | ⟨b, off, rfl, hb, hs⟩
  · exact valueIn_none ao cap k w
  · exact valueIn_at b off cap l k w hm hs

end Go.Proofs.Ytlbmcdoldnajoaa
