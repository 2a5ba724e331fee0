/- 'whole': every list that came out is as its owner wrote it. -/
import Derived.Test.YtlbmcdoldnajoaaKeepP2
import Derived.Test.YtlbmcdoldnajoaaKeep2
import Derived.Deep.RegionHeld3
import Derived.Deep.DrawnRows
namespace Go.Proofs.Ytlbmcdoldnajoaa
open Go.RowKit
attribute [local go_sem ↓] Go.wp_at_zero Go.wp_at_succ

/-- an element of a row of lists -/
theorem row_elem {w : World} {B : Nat} {e : TypeId} {ia : Option Addr} {N ic : Nat} {vs : List Value} (h : w.ownsRow B e 1 (.slice ia N ic) N vs) {i : Nat} (hi : i < N) : ∃ g v, ia = some ⟨g, 0, none⟩ ∧ vs[i]? = some v ∧ w.cell? ⟨g, i, none⟩ = some v ∧ g < w.heap.size := by
  have hl := h.1
  have hi' : i < vs.length := by omega
  rcases h.2 with ⟨_, h0⟩ | ⟨g, cap, cur, hv, _, hh, _⟩
  · omega
  · injection hv with h1 h2 h3
    subst h1; subst h3
    refine ⟨g, vs[i], rfl, List.getElem?_eq_getElem hi', ?_, blk_lt hh⟩
    rw [h.cellAt i (by omega)]
    exact List.getElem?_eq_getElem hi'

/-- the numbers of a list full of marks -/
theorem full_elem {w : World} {B : Nat} {v : Value} {n : Nat} {m : Int} (h : w.ownsRow B 3 1 v n (List.replicate n (.int .i64 m))) : ∃ ao cap, v = .slice ao n cap ∧ (n = 0 ∨ ∃ b, ao = some ⟨b, 0, none⟩ ∧ b < w.heap.size ∧ ∀ k, k < n → w.cell? ⟨b, k, none⟩ = some (.int .i64 m)) := by
  rcases h.2 with ⟨rfl, h0⟩ | ⟨g, cap, cur, rfl, _, hh, _⟩
  · subst h0; exact ⟨none, 0, rfl, Or.inl rfl⟩
  · refine ⟨_, cap, rfl, Or.inr ⟨g, rfl, blk_lt hh, fun k hk => ?_⟩⟩
    rw [h.cellAt k (by omega)]
    simp [hk]

/-- the pairs of a list full of marks -/
theorem full_pair {w : World} {B : Nat} {v : Value} {n : Nat} {m : Int} (h : w.ownsRow B 42 2 v n (prCells (List.replicate n (m, -1)))) : ∃ ao cap, v = .slice ao n cap ∧ (n = 0 ∨ ∃ b, ao = some ⟨b, 0, none⟩ ∧ b < w.heap.size ∧ ∀ k, k < n → w.cell? ⟨b, k * 2, none⟩ = some (.int .i64 m) ∧ w.cell? ⟨b, k * 2 + 1, none⟩ = some (.int .i64 (-1))) := by
  rcases h.2 with ⟨rfl, h0⟩ | ⟨g, cap, cur, rfl, _, hh, _⟩
  · subst h0; exact ⟨none, 0, rfl, Or.inl rfl⟩
  · refine ⟨_, cap, rfl, Or.inr ⟨g, rfl, blk_lt hh, fun k hk => ?_⟩⟩
    have e := prCells_get (List.replicate n (m, (-1 : Int))) k (by simp [hk])
    have e1 : (List.replicate n (m, (-1 : Int))).getD k pz = (m, -1) := by simp [List.getD, hk]
    rw [e1] at e
    rw [h.cellAt (k * 2) (by omega), h.cellAt (k * 2 + 1) (by omega)]
    exact e

set_option maxRecDepth 100000 in
set_option maxHeartbeats 4000000 in
theorem whole_any (B : Nat) (W : World) (pb : Nat) (dv : Value) (one : Bool) (ia : Option Addr) (N ic : Nat) (pa : Option Addr) (M pc : Nat) (vs ps : List Value) (hN : N = vs.length) (hM : M = ps.length) (hN1 : N ≤ 1000000000000) (hM1 : M ≤ 1000000000000) (h : LW B W pb dv one (.slice ia N ic) (.slice pa M pc) vs ps) :
    Calls Try.prog 15 #[.pointer (some ⟨pb, 0, none⟩)] W fun e W' => e = .returned (.bool true) ∧ Below W.heap.size W W' := by
  have c2 : W.cell? ⟨pb, 2, none⟩ = some (.slice ia N ic) := by rw [blk_cell h.blk]; rfl
  have c3 : W.cell? ⟨pb, 3, none⟩ = some (.slice pa M pc) := by rw [blk_cell h.blk]; rfl
  have hpb := blk_lt h.blk
  have HL : Hid (LW B W pb dv one (.slice ia N ic) (.slice pa M pc) vs ps) := h
  have HI : Hid (W.ownsRow B 37 1 (.slice ia N ic) N vs) := by have := h.ints; rwa [← hN] at this
  have HP : Hid (W.ownsRow B 24 1 (.slice pa M pc) M ps) := by have := h.prs; rwa [← hM] at this
  clear h hN hM
  go_enter Try.func15, Try.ntmps15
  go_wp2
  go_loopw [3] (fun i wr => ∃ j d : Nat, j ≤ N ∧ i = .int .i64 j ∧ wr = W.drewN d) (fun i _ => N - (intOf i).toNat)
  case atStart => exact ⟨0, 0, Nat.zero_le _, rfl, rfl⟩
  case round =>
    obtain ⟨j, d, hj, rfl, rfl⟩ := hrel
    by_cases hlt : j < N
    · obtain ⟨g, v, rfl, hv, hcv, hg⟩ := row_elem HI.out hlt
      obtain ⟨n, hn, hu⟩ := HL.out.ki j v hv
      obtain ⟨ao, cap, rfl, hfull⟩ := full_elem hu
      have m1 : (0 : Int) ≤ (j : Int) := by omega
      have m2 : (j : Int) < (N : Int) := by omega
      have HFull : Hid (n = 0 ∨ ∃ b, ao = some ⟨b, 0, none⟩ ∧ b < W.heap.size ∧ ∀ k, k < n → W.cell? ⟨b, k, none⟩ = some (.int .i64 (markN j))) := hfull
      have hmk : Hid (-1000 - (j : Int) / 4 = markN j) := by show _ = _; simp only [markN]; omega
      clear hu hv hfull
      go_wp2
      go_loopw [4] (fun k wr => ∃ t d' : Nat, t ≤ n ∧ k = .int .i64 t ∧ wr = W.drewN d') (fun k _ => n - (intOf k).toNat)
      case atStart => exact ⟨0, d, Nat.zero_le _, rfl, rfl⟩
      case round =>
        obtain ⟨t, d', ht, rfl, rfl⟩ := hrel
        by_cases htn : t < n
        · have hb : ∃ b, ao = some ⟨b, 0, none⟩ ∧ W.cell? ⟨b, t, none⟩ = some (.int .i64 (-1000 - (j : Int) / 4)) := by
            rcases HFull.out with h0 | ⟨b, h1, _, h3⟩
            · omega
            · exact ⟨b, h1, by rw [h3 t htn, hmk.out]⟩
          obtain ⟨b, rfl, hbt⟩ := hb
          have m3 : (0 : Int) ≤ (t : Int) := by omega
          have m4 : (t : Int) < (n : Int) := by omega
          have d2 : (W.drewN d').cell? ⟨pb, 2, none⟩ = some (.slice (some ⟨g, 0, none⟩) N ic) := c2
          have dcv : (W.drewN d').cell? ⟨g, j, none⟩ = some (.slice (some ⟨b, 0, none⟩) n cap) := hcv
          have dbt : (W.drewN d').cell? ⟨b, t, none⟩ = some (.int .i64 (-1000 - (j : Int) / 4)) := hbt
          generalize hW1 : W.drewN d' = W1 at d2 dcv dbt ⊢
          go_wp2
          have hwq : IntKind.i64.wrap ((j : Int) / 4) = (j : Int) / 4 := by rw [IntKind.wrap_i64]; omega
          go_quiet ((go_at_call 52; exact Calls.quiet_of_same (mark_any ((j : Int) / 4) _ (by omega) (by omega))))
          go_wp2
          go_roundw
          case rel => subst hW1; exact ⟨t + 1, d' + nq, by omega, by go_num, by simp [World.drewN, Nat.add_assoc]⟩
          case measure => simp [intOf]; omega
        · go_wp2
          go_roundw
          case rel => exact ⟨j + 1, d', by omega, by go_num, rfl⟩
          case measure => simp [intOf]; omega
    · have hb0 : Below W.heap.size W (W.drewN d) := ⟨rfl, rfl, rfl, Nat.le_refl _, fun _ _ => rfl⟩
      clear HI
      generalize W.drewN d = W0 at hb0 ⊢
      have e3 : W0.cell? ⟨pb, 3, none⟩ = some (.slice pa M pc) := (hb0.cell hpb).trans c3
      have e2 : W0.cell? ⟨pb, 2, none⟩ = some (.slice ia N ic) := (hb0.cell hpb).trans c2
      have hjN : j = N := by omega
      subst hjN
      clear hj hlt
      go_wp2
      clear e2
      go_loopw [5] (fun i wr => ∃ j : Nat, j ≤ M ∧ i = .int .i64 j ∧ Below W.heap.size W wr) (fun i _ => M - (intOf i).toNat)
      case atStart => exact ⟨0, Nat.zero_le _, rfl, hb0⟩
      case round =>
        clear hb0 e3
        obtain ⟨j, hj, rfl, hbel⟩ := hrel
        have r3 : wr.cell? ⟨pb, 3, none⟩ = some (.slice pa M pc) := (hbel.cell hpb).trans c3
        by_cases hlt : j < M
        · obtain ⟨g, v, rfl, hv, hcv, hg⟩ := row_elem HP.out hlt
          obtain ⟨n, hn, hu⟩ := HL.out.kp j v hv
          obtain ⟨ao, cap, rfl, hfull⟩ := full_pair hu
          have m1 : (0 : Int) ≤ (j : Int) := by omega
          have m2 : (j : Int) < (M : Int) := by omega
          have HFull : Hid (n = 0 ∨ ∃ b, ao = some ⟨b, 0, none⟩ ∧ b < W.heap.size ∧ ∀ k, k < n → W.cell? ⟨b, k * 2, none⟩ = some (.int .i64 (markN j)) ∧ W.cell? ⟨b, k * 2 + 1, none⟩ = some (.int .i64 (-1))) := hfull
          have hmk : Hid (-1000 - (j : Int) / 4 = markN j) := by show _ = _; simp only [markN]; omega
          have rcv : wr.cell? ⟨g, j, none⟩ = some (.slice ao n cap) := (hbel.cell hg).trans hcv
          clear hu hv hfull
          go_wp2
          go_loopw [6] (fun k wr => ∃ t : Nat, t ≤ n ∧ k = .int .i64 t ∧ Below W.heap.size W wr) (fun k _ => n - (intOf k).toNat)
          case atStart => exact ⟨0, Nat.zero_le _, rfl, hbel⟩
          case round =>
            clear r3 rcv hbel
            obtain ⟨t, ht, rfl, hbel⟩ := hrel
            have r3 : wr.cell? ⟨pb, 3, none⟩ = some (.slice (some ⟨g, 0, none⟩) M pc) := (hbel.cell hpb).trans c3
            have rcv : wr.cell? ⟨g, j, none⟩ = some (.slice ao n cap) := (hbel.cell hg).trans hcv
            by_cases htn : t < n
            · have hb : ∃ b, ao = some ⟨b, 0, none⟩ ∧ wr.cell? ⟨b, t * 2, none⟩ = some (.int .i64 (-1000 - (j : Int) / 4)) ∧ wr.cell? ⟨b, t * 2 + 1, none⟩ = some (.int .i64 (-1)) := by
                rcases HFull.out with h0 | ⟨b, h1, h2, h3⟩
                · omega
                · exact ⟨b, h1, by rw [hbel.cell h2, (h3 t htn).1, hmk.out], by rw [hbel.cell h2]; exact (h3 t htn).2⟩
              obtain ⟨b, rfl, hbt, hbu⟩ := hb
              have m3 : (0 : Int) ≤ (t : Int) := by omega
              have m4 : (t : Int) < (n : Int) := by omega
              have hwq : IntKind.i64.wrap ((j : Int) / 4) = (j : Int) / 4 := by rw [IntKind.wrap_i64]; omega
              go_wp2
              go_region_held3 (fun w' => w'.cell? ⟨pb, 3, none⟩ = some (.slice (some ⟨g, 0, none⟩) M pc) ∧ w'.cell? ⟨g, j, none⟩ = some (.slice (some ⟨b, 0, none⟩) n cap) ∧ w'.cell? ⟨b, t * 2, none⟩ = some (.int .i64 (-1000 - (j : Int) / 4)) ∧ w'.cell? ⟨b, t * 2 + 1, none⟩ = some (.int .i64 (-1))) (go_keep)
                (first | (go_at_call 46; refine (badPair_any ((j : Int) / 4) _ (by omega) (by omega)).mono ?_; rintro e w' ⟨rfl, rfl⟩))
              go_wp2
              go_roundw
              case rel => exact ⟨t + 1, by omega, by go_num, by first | exact (hbel.drew).alloc hbel.size _ | exact (hbel.alloc hbel.size _).drew⟩
              case measure => simp [intOf]; omega
            · go_wp2
              go_roundw
              case rel => exact ⟨j + 1, by omega, by go_num, hbel⟩
              case measure => simp [intOf]; omega
        · go_wp2
          go_ret
          exact ⟨rfl, hbel⟩

end Go.Proofs.Ytlbmcdoldnajoaa
