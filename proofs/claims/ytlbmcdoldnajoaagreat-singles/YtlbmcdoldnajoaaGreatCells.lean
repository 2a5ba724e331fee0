import Derived.Test.YtlbmcdoldnajoaaGreatKeepP2
import Derived.Test.YtlbmcdoldnajoaaGreatKeep2
import Derived.Deep.RegionHeld3
import Derived.Deep.DrawnRows
import Derived.Laws.CopyOwn
import Derived.OwnWalk
import Derived.Test.YtlbmcdoldnajoaaGreatFrame
set_option maxRecDepth 100000
set_option maxHeartbeats 4000000
namespace Go.Proofs.YtlbmcdoldnajoaaGreat
open Go.RowKit
attribute [local go_sem ↓] Go.wp_at_zero Go.wp_at_succ
theorem row_elem {w : World} {B : Nat} {e : TypeId} {ia : Option Addr} {N ic : Nat} {vs : List Value} (h : w.ownsRow B e 1 (.slice ia N ic) N vs) {i : Nat} (hi : i < N) : ∃ g v, ia = some ⟨g, 0, none⟩ ∧ vs[i]? = some v ∧ w.cell? ⟨g, i, none⟩ = some v ∧ g < w.heap.size := by
  have hl := h.1
  have hi' : i < vs.length := by omega
  rcases h.2 with ⟨_, h0⟩ | ⟨g, cap, cur, hv, _, hh, _⟩
  · omega
  · injection hv with h1 h2 h3
    subst h1; subst h3
    refine ⟨g, vs[i], rfl, List.getElem?_eq_getElem hi', ?_, blk_lt hh⟩
    rw [h.cellAt i (by omega)]
    exact List.getElem?_eq_getElem hi'
theorem full_elem {w : World} {B : Nat} {v : Value} {n : Nat} {m : Int} (h : w.ownsRow B 3 1 v n (List.replicate n (.int .i64 m))) : ∃ ao cap, v = .slice ao n cap ∧ (n = 0 ∨ ∃ b, ao = some ⟨b, 0, none⟩ ∧ b < w.heap.size ∧ ∀ k, k < n → w.cell? ⟨b, k, none⟩ = some (.int .i64 m)) := by
  rcases h.2 with ⟨rfl, h0⟩ | ⟨g, cap, cur, rfl, _, hh, _⟩
  · subst h0; exact ⟨none, 0, rfl, Or.inl rfl⟩
  · refine ⟨_, cap, rfl, Or.inr ⟨g, rfl, blk_lt hh, fun k hk => ?_⟩⟩
    rw [h.cellAt k (by omega)]
    simp [hk]
theorem full_pair {w : World} {B : Nat} {v : Value} {n : Nat} {m : Int} (h : w.ownsRow B 58 2 v n (prCells (List.replicate n (m, -1)))) : ∃ ao cap, v = .slice ao n cap ∧ (n = 0 ∨ ∃ b, ao = some ⟨b, 0, none⟩ ∧ b < w.heap.size ∧ ∀ k, k < n → w.cell? ⟨b, k * 2, none⟩ = some (.int .i64 m) ∧ w.cell? ⟨b, k * 2 + 1, none⟩ = some (.int .i64 (-1))) := by
  rcases h.2 with ⟨rfl, h0⟩ | ⟨g, cap, cur, rfl, _, hh, _⟩
  · subst h0; exact ⟨none, 0, rfl, Or.inl rfl⟩
  · refine ⟨_, cap, rfl, Or.inr ⟨g, rfl, blk_lt hh, fun k hk => ?_⟩⟩
    have e := prCells_get (List.replicate n (m, (-1 : Int))) k (by simp [hk])
    have e1 : (List.replicate n (m, (-1 : Int))).getD k pz = (m, -1) := by simp [List.getD, hk]
    rw [e1] at e
    rw [h.cellAt (k * 2) (by omega), h.cellAt (k * 2 + 1) (by omega)]
    exact e
theorem whole_any (B : Nat) (W : World) (pb : Nat) (dv : Value) (one : Bool) (ia : Option Addr) (N ic : Nat) (pa : Option Addr) (M pc : Nat) (vs ps : List Value) (hN : N = vs.length) (hM : M = ps.length) (hN1 : N ≤ 1000000000000) (hM1 : M ≤ 1000000000000) (h : LW B W pb dv one (.slice ia N ic) (.slice pa M pc) vs ps) :
    Calls Tryz.prog 9 #[.pointer (some ⟨pb, 0, none⟩)] W fun e W' => e = .returned (.bool true) ∧ Below W.heap.size W W' := by
  have c2 : W.cell? ⟨pb, 2, none⟩ = some (.slice ia N ic) := by rw [blk_cell h.blk]; rfl
  have c3 : W.cell? ⟨pb, 3, none⟩ = some (.slice pa M pc) := by rw [blk_cell h.blk]; rfl
  have hpb := blk_lt h.blk
  have HL : Hid (LW B W pb dv one (.slice ia N ic) (.slice pa M pc) vs ps) := h
  have HI : Hid (W.ownsRow B 55 1 (.slice ia N ic) N vs) := by have := h.ints; rwa [← hN] at this
  have HP : Hid (W.ownsRow B 36 1 (.slice pa M pc) M ps) := by have := h.prs; rwa [← hM] at this
  clear h hN hM
  go_enter Tryz.func9, Tryz.ntmps9
  go_wp2
  go_loopw [3] (fun i wr => ∃ j d : Nat, j ≤ N ∧ i = .int .i64 j ∧ wr = W.drewN d) (fun i _ => N - (intOf i).toNat)
  case atStart => exact ⟨0, 0, Nat.zero_le _, rfl, rfl⟩
  case round =>
    obtain ⟨j, d, hj, rfl, rfl⟩ := hrel
    by_cases hlt : j < N
    · obtain ⟨g, v, rfl, hv, hcv, hg⟩ := row_elem HI.out hlt
      obtain ⟨n, hn, hu⟩ := HL.out.ki j v hv
      obtain ⟨ao, cap, rfl, hfull⟩ := full_elem hu
      have m1 : (0 : Int) ≤ (j : Int) := by omega
      have m2 : (j : Int) < (N : Int) := by omega
      have HFull : Hid (n = 0 ∨ ∃ b, ao = some ⟨b, 0, none⟩ ∧ b < W.heap.size ∧ ∀ k, k < n → W.cell? ⟨b, k, none⟩ = some (.int .i64 (markN j))) := hfull
      have hmk : Hid (-1000 - (j : Int) / 4 = markN j) := by show _ = _; simp only [markN]; omega
      clear hu hv hfull
      go_wp2
      go_loopw [4] (fun k wr => ∃ t d' : Nat, t ≤ n ∧ k = .int .i64 t ∧ wr = W.drewN d') (fun k _ => n - (intOf k).toNat)
      case atStart => exact ⟨0, d, Nat.zero_le _, rfl, rfl⟩
      case round =>
        obtain ⟨t, d', ht, rfl, rfl⟩ := hrel
        by_cases htn : t < n
        · have hb : ∃ b, ao = some ⟨b, 0, none⟩ ∧ W.cell? ⟨b, t, none⟩ = some (.int .i64 (-1000 - (j : Int) / 4)) := by
            rcases HFull.out with h0 | ⟨b, h1, _, h3⟩
            · omega
            · exact ⟨b, h1, by rw [h3 t htn, hmk.out]⟩
          obtain ⟨b, rfl, hbt⟩ := hb
          have m3 : (0 : Int) ≤ (t : Int) := by omega
          have m4 : (t : Int) < (n : Int) := by omega
          have d2 : (W.drewN d').cell? ⟨pb, 2, none⟩ = some (.slice (some ⟨g, 0, none⟩) N ic) := c2
          have dcv : (W.drewN d').cell? ⟨g, j, none⟩ = some (.slice (some ⟨b, 0, none⟩) n cap) := hcv
          have dbt : (W.drewN d').cell? ⟨b, t, none⟩ = some (.int .i64 (-1000 - (j : Int) / 4)) := hbt
          generalize hW1 : W.drewN d' = W1 at d2 dcv dbt ⊢
          go_wp2
          have hwq : IntKind.i64.wrap ((j : Int) / 4) = (j : Int) / 4 := by rw [IntKind.wrap_i64]; omega
          go_quiet ((go_at_call 17; exact Calls.quiet_of_same (mark_any ((j : Int) / 4) _ (by omega) (by omega))))
          go_wp2
          go_roundw
          case rel => subst hW1; exact ⟨t + 1, d' + nq, by omega, by go_num, by simp [World.drewN, Nat.add_assoc]⟩
          case measure => simp [intOf]; omega
        · go_wp2
          go_roundw
          case rel => exact ⟨j + 1, d', by omega, by go_num, rfl⟩
          case measure => simp [intOf]; omega
    · have hb0 : Below W.heap.size W (W.drewN d) := ⟨rfl, rfl, rfl, Nat.le_refl _, fun _ _ => rfl⟩
      clear HI
      generalize W.drewN d = W0 at hb0 ⊢
      have e3 : W0.cell? ⟨pb, 3, none⟩ = some (.slice pa M pc) := (hb0.cell hpb).trans c3
      have e2 : W0.cell? ⟨pb, 2, none⟩ = some (.slice ia N ic) := (hb0.cell hpb).trans c2
      have hjN : j = N := by omega
      subst hjN
      clear hj hlt
      go_wp2
      clear e2
      go_loopw [5] (fun i wr => ∃ j : Nat, j ≤ M ∧ i = .int .i64 j ∧ Below W.heap.size W wr) (fun i _ => M - (intOf i).toNat)
      case atStart => exact ⟨0, Nat.zero_le _, rfl, hb0⟩
      case round =>
        clear hb0 e3
        obtain ⟨j, hj, rfl, hbel⟩ := hrel
        have r3 : wr.cell? ⟨pb, 3, none⟩ = some (.slice pa M pc) := (hbel.cell hpb).trans c3
        by_cases hlt : j < M
        · obtain ⟨g, v, rfl, hv, hcv, hg⟩ := row_elem HP.out hlt
          obtain ⟨n, hn, hu⟩ := HL.out.kp j v hv
          obtain ⟨ao, cap, rfl, hfull⟩ := full_pair hu
          have m1 : (0 : Int) ≤ (j : Int) := by omega
          have m2 : (j : Int) < (M : Int) := by omega
          have HFull : Hid (n = 0 ∨ ∃ b, ao = some ⟨b, 0, none⟩ ∧ b < W.heap.size ∧ ∀ k, k < n → W.cell? ⟨b, k * 2, none⟩ = some (.int .i64 (markN j)) ∧ W.cell? ⟨b, k * 2 + 1, none⟩ = some (.int .i64 (-1))) := hfull
          have hmk : Hid (-1000 - (j : Int) / 4 = markN j) := by show _ = _; simp only [markN]; omega
          have rcv : wr.cell? ⟨g, j, none⟩ = some (.slice ao n cap) := (hbel.cell hg).trans hcv
          clear hu hv hfull
          go_wp2
          go_loopw [6] (fun k wr => ∃ t : Nat, t ≤ n ∧ k = .int .i64 t ∧ Below W.heap.size W wr) (fun k _ => n - (intOf k).toNat)
          case atStart => exact ⟨0, Nat.zero_le _, rfl, hbel⟩
          case round =>
            clear r3 rcv hbel
            obtain ⟨t, ht, rfl, hbel⟩ := hrel
            have r3 : wr.cell? ⟨pb, 3, none⟩ = some (.slice (some ⟨g, 0, none⟩) M pc) := (hbel.cell hpb).trans c3
            have rcv : wr.cell? ⟨g, j, none⟩ = some (.slice ao n cap) := (hbel.cell hg).trans hcv
            by_cases htn : t < n
            · have hb : ∃ b, ao = some ⟨b, 0, none⟩ ∧ wr.cell? ⟨b, t * 2, none⟩ = some (.int .i64 (-1000 - (j : Int) / 4)) ∧ wr.cell? ⟨b, t * 2 + 1, none⟩ = some (.int .i64 (-1)) := by
                rcases HFull.out with h0 | ⟨b, h1, h2, h3⟩
                · omega
                · exact ⟨b, h1, by rw [hbel.cell h2, (h3 t htn).1, hmk.out], by rw [hbel.cell h2]; exact (h3 t htn).2⟩
              obtain ⟨b, rfl, hbt, hbu⟩ := hb
              have m3 : (0 : Int) ≤ (t : Int) := by omega
              have m4 : (t : Int) < (n : Int) := by omega
              have hwq : IntKind.i64.wrap ((j : Int) / 4) = (j : Int) / 4 := by rw [IntKind.wrap_i64]; omega
              go_wp2
              go_region_held3 (fun w' => w'.cell? ⟨pb, 3, none⟩ = some (.slice (some ⟨g, 0, none⟩) M pc) ∧ w'.cell? ⟨g, j, none⟩ = some (.slice (some ⟨b, 0, none⟩) n cap) ∧ w'.cell? ⟨b, t * 2, none⟩ = some (.int .i64 (-1000 - (j : Int) / 4)) ∧ w'.cell? ⟨b, t * 2 + 1, none⟩ = some (.int .i64 (-1))) (go_keep)
                (first | (go_at_call 18; refine (badPair_any ((j : Int) / 4) _ (by omega) (by omega)).mono ?_; rintro e w' ⟨rfl, rfl⟩))
              go_wp2
              go_roundw
              case rel => exact ⟨t + 1, by omega, by go_num, by first | exact (hbel.drew).alloc hbel.size _ | exact (hbel.alloc hbel.size _).drew⟩
              case measure => simp [intOf]; omega
            · go_wp2
              go_roundw
              case rel => exact ⟨j + 1, by omega, by go_num, hbel⟩
              case measure => simp [intOf]; omega
        · go_wp2
          go_ret
          exact ⟨rfl, hbel⟩
end Go.Proofs.YtlbmcdoldnajoaaGreat
namespace Go.Proofs.YtlbmcdoldnajoaaGreat
open Go.RowKit
theorem run_copy_wide {P : Program} (w : World) (dT sT ty elem : TypeId) (g o dLen dCap : Nat) (a : Addr) (sLen sCap sz : Nat) (cur : Array Value) (t : TypeId) (cs : List Value)
    (hu : P.underlying dT = some (.slice elem)) (hs : (P.info? elem).map (·.size) = some sz)
    (hg : w.heap[g]? = some (.cells cur t (0, 0))) (hn : cs.length = Nat.min sLen dLen * sz)
    (hsrc : ∀ j v, cs[j]? = some v → w.cell? (a.add j) = some v) (hfit : o + cs.length ≤ cur.size) (h1 : ∀ v ∈ cs, v.oneCell' = true) :
    (Builtin.copy_ #[dT, sT] ty #[.slice (some ⟨g, o, none⟩) dLen dCap, .slice (some a) sLen sCap]).run P w =
      .ok (goInt (Nat.min sLen dLen)) (w.setRow g (cur.toList.take o ++ cs ++ cur.toList.drop (o + cs.length)).toArray) := by
  have hl := run_loadCells_list (P := P) w a cs hsrc
  have hst := run_storeCells_at P g o t cs 0 cur w hg (by simpa using hfit) h1
  cases hq : P.info? elem with
  | none => simp [hq] at hs
  | some i =>
    have hi : i.size = sz := by simpa [hq] using hs
    simp [Builtin.copy_, run_underlying hu, Builtin.lenOf, Builtin.firstCells, sizeOf, typeInfo, hq, hi, ← hn, hl, hst]
theorem run_copy_wide_none {P : Program} (w : World) (dT sT ty elem : TypeId) (dp sp : Option Addr) (dLen dCap sLen sCap sz : Nat)
    (hu : P.underlying dT = some (.slice elem)) (hs : (P.info? elem).map (·.size) = some sz) (hn : Nat.min sLen dLen = 0) :
    (Builtin.copy_ #[dT, sT] ty #[.slice dp dLen dCap, .slice sp sLen sCap]).run P w = .ok (goInt 0) w := by
  cases hq : P.info? elem with
  | none => simp [hq] at hs
  | some i =>
    cases sp <;> cases dp <;>
    simp [Builtin.copy_, run_underlying hu, Builtin.lenOf, Builtin.firstCells, sizeOf, typeInfo, hq, hn, loadCells, loadCellsFrom, storeCells]
theorem wpList_copy_wide {P : Program} {w : World} {ops : Array Oper} {rest : List Oper} {o : Oper} {a : Act} {Q : Exit → Act → World → Prop} (hgd : o.guard = none) (d s : Operand) (dT sT : TypeId)
    (ho : o.op = .call { callee := .builtin .copy, args := #[d, s], argTypes := #[dT, sT] }) (elem : TypeId) (sz : Nat) (hu : P.underlying dT = some (.slice elem)) (hsz : (P.info? elem).map (·.size) = some sz)
    (dp sp : Option Addr) (dLen dCap sLen sCap n : Nat) (hd : a.eval d = .slice dp dLen dCap) (hs : a.eval s = .slice sp sLen sCap) (hmin : Nat.min sLen dLen = n)
    (g off : Nat) (cur : List Value) (t : TypeId) (hg : w.heap[g]? = some (.cells cur.toArray t (0, 0))) (cs : List Value) (hn : cs.length = n * sz)
    (hpos : 0 < n → dp = some ⟨g, off, none⟩ ∧ ∃ ad, sp = some ad ∧ ∀ j v, cs[j]? = some v → w.cell? (ad.add j) = some v)
    (hfit : off + cs.length ≤ cur.length) (h1 : ∀ v ∈ cs, v.oneCell' = true) (B : Nat) (w0 : World) (hb : Below B w0 w) (hBg : B ≤ g)
    (h : ∀ w', Hid (w'.heap[g]? = some (.cells (splice cur off cs).toArray t (0, 0))) → Below B w0 w' → w'.heap.size = w.heap.size → wpList P ops Q rest (a.put o.dst (goInt n)) w') :
    wpList P ops Q (o :: rest) a w := by
  refine wpList_plain hgd fun K hK => ?_
  by_cases h0 : n = 0
  · subst h0
    obtain rfl : cs = [] := List.eq_nil_of_length_eq_zero (by simpa using hn)
    have hrun := run_copy_wide_none (P := P) w dT sT o.type elem dp sp dLen dCap sLen sCap sz hu hsz hmin
    unfold Oper.wp
    simp [execOp, ho, resolve, invoke, builtin, hd, hs, hrun, Result.andThen]
    exact hK _ _ (h w (show _ = _ by simpa [splice] using hg) hb rfl)
  · obtain ⟨rfl, ad, rfl, hsrc⟩ := hpos (by omega)
    have hrun := run_copy_wide (P := P) w dT sT o.type elem g off dLen dCap ad sLen sCap sz cur.toArray t cs hu hsz hg (by rw [hmin]; exact hn) hsrc (by simpa using hfit) h1
    rw [hmin] at hrun
    unfold Oper.wp
    simp [execOp, ho, resolve, invoke, builtin, hd, hs, hrun, Result.andThen]
    exact hK _ _ (h _ (show _ = _ by simpa [splice] using setRow_heap w g _ _ t _ hg) (below_setRow hb hBg _) (by simp [World.setRow]))
end Go.Proofs.YtlbmcdoldnajoaaGreat
namespace Go.Proofs.YtlbmcdoldnajoaaGreat
open Go.RowKit
def stCells : List St → List Value
  | [] => []
  | s :: r => .int .i64 s.op :: .int .i64 s.a :: .int .i64 s.b :: .int .i64 s.c :: stCells r
theorem length_stCells : ∀ l : List St, (stCells l).length = l.length * 4
  | [] => rfl
  | s :: r => by simp [stCells, length_stCells r]; omega
theorem stCells_oneCell : ∀ (l : List St), ∀ v ∈ stCells l, v.oneCell' = true
  | [], v, h => by cases h
  | s :: r, v, h => by
    simp only [stCells, List.mem_cons] at h
    rcases h with rfl | rfl | rfl | rfl | h
    · rfl
    · rfl
    · rfl
    · rfl
    · exact stCells_oneCell r v h
theorem stCells_get : ∀ (l : List St) (i : Nat), i < l.length →
    (stCells l)[i * 4]? = some (.int .i64 (l.getD i stz).op) ∧ (stCells l)[i * 4 + 1]? = some (.int .i64 (l.getD i stz).a) ∧ (stCells l)[i * 4 + 2]? = some (.int .i64 (l.getD i stz).b) ∧ (stCells l)[i * 4 + 3]? = some (.int .i64 (l.getD i stz).c)
  | [], i, h => by simp at h
  | s :: r, 0, _ => by simp [stCells]
  | s :: r, i + 1, h => by
    have ih := stCells_get r i (by simpa using h)
    have e0 : (i + 1) * 4 = i * 4 + 4 := by omega
    simp only [stCells, e0, List.getElem?_cons_succ, List.getD_cons_succ]
    exact ih
theorem StepsAt.cells {w : World} {b off : Nat} {l : List St} (h : StepsAt w b off l) : ∀ j v, (stCells l)[j]? = some v → w.cell? ((⟨b, off, none⟩ : Addr).add j) = some v := by
  intro j v hj
  have hlt : j < (stCells l).length := (List.getElem?_eq_some_iff.1 hj).1
  rw [length_stCells] at hlt
  have hadd : (⟨b, off, none⟩ : Addr).add j = ⟨b, off + j, none⟩ := by unfold Addr.add; split <;> simp_all
  rw [hadd]
  obtain ⟨h0, h1, h2, h3⟩ := h (j / 4) (by omega)
  obtain ⟨g0, g1, g2, g3⟩ := stCells_get l (j / 4) (by omega)
  rcases (show j = j / 4 * 4 ∨ j = j / 4 * 4 + 1 ∨ j = j / 4 * 4 + 2 ∨ j = j / 4 * 4 + 3 by omega) with e | e | e | e
  · rw [← e] at g0 h0; rw [hj] at g0; rw [h0, g0]
  · rw [← e] at g1; rw [hj] at g1; rw [show off + j = off + j / 4 * 4 + 1 by omega, h1, g1]
  · rw [← e] at g2; rw [hj] at g2; rw [show off + j = off + j / 4 * 4 + 2 by omega, h2, g2]
  · rw [← e] at g3; rw [hj] at g3; rw [show off + j = off + j / 4 * 4 + 3 by omega, h3, g3]
theorem stepsAt_of_cells {w : World} {b off : Nat} {l : List St} (h : ∀ j v, (stCells l)[j]? = some v → w.cell? ⟨b, off + j, none⟩ = some v) : StepsAt w b off l := by
  intro i hi
  obtain ⟨g0, g1, g2, g3⟩ := stCells_get l i hi
  exact ⟨h _ _ g0, by simpa [Nat.add_assoc] using h _ _ g1, by simpa [Nat.add_assoc] using h _ _ g2, by simpa [Nat.add_assoc] using h _ _ g3⟩
theorem stepsAt_of_row {w : World} {g : Nat} {l : List St} {rest : List Value} {t : TypeId} {fr : Nat × Nat} (h : w.heap[g]? = some (.cells (stCells l ++ rest).toArray t fr)) : StepsAt w g 0 l := by
  refine stepsAt_of_cells fun j v hj => ?_
  have hlt : j < (stCells l).length := (List.getElem?_eq_some_iff.1 hj).1
  simp [World.cell?, h, List.getElem?_append_left hlt, hj]
def set4 (w : World) (b o : Nat) (s : St) : World :=
  (((w.setCell ⟨b, o, none⟩ (.int .i64 s.op)).setCell ⟨b, o + 1, none⟩ (.int .i64 s.a)).setCell ⟨b, o + 2, none⟩ (.int .i64 s.b)).setCell ⟨b, o + 3, none⟩ (.int .i64 s.c)
theorem set4_other {w : World} {b o b' o' : Nat} {s : St} (h : b' = b → o' < o ∨ o + 4 ≤ o') : (set4 w b o s).cell? ⟨b', o', none⟩ = w.cell? ⟨b', o', none⟩ := by
  have ne : ∀ j, j < 4 → (⟨b, o + j, none⟩ : Addr) ≠ ⟨b', o', none⟩ := fun j hj e => by
    injection e with e1 e2
    have := h e1.symm
    omega
  unfold set4
  rw [World.cell?_setCell_other _ _ _ _ (ne 3 (by omega)), World.cell?_setCell_other _ _ _ _ (ne 2 (by omega)), World.cell?_setCell_other _ _ _ _ (ne 1 (by omega)), World.cell?_setCell_other _ _ _ _ (by simpa using ne 0 (by omega))]
theorem set4_same {w : World} {b o : Nat} {s : St} {x0 x1 x2 x3 : Value} (h0 : w.cell? ⟨b, o, none⟩ = some x0) (h1 : w.cell? ⟨b, o + 1, none⟩ = some x1) (h2 : w.cell? ⟨b, o + 2, none⟩ = some x2) (h3 : w.cell? ⟨b, o + 3, none⟩ = some x3) :
    (set4 w b o s).cell? ⟨b, o, none⟩ = some (.int .i64 s.op) ∧ (set4 w b o s).cell? ⟨b, o + 1, none⟩ = some (.int .i64 s.a) ∧ (set4 w b o s).cell? ⟨b, o + 2, none⟩ = some (.int .i64 s.b) ∧ (set4 w b o s).cell? ⟨b, o + 3, none⟩ = some (.int .i64 s.c) := by
  have ne : ∀ i j, i ≠ j → (⟨b, o + i, none⟩ : Addr) ≠ ⟨b, o + j, none⟩ := fun i j hij e => by
    injection e with _ e2
    omega
  have n01 := ne 0 1 (by omega); have n02 := ne 0 2 (by omega); have n03 := ne 0 3 (by omega); have n12 := ne 1 2 (by omega); have n13 := ne 1 3 (by omega); have n23 := ne 2 3 (by omega)
  simp only [Nat.add_zero] at n01 n02 n03
  unfold set4
  refine ⟨?_, ?_, ?_, ?_⟩
  · rw [World.cell?_setCell_other _ _ _ _ n03.symm, World.cell?_setCell_other _ _ _ _ n02.symm, World.cell?_setCell_other _ _ _ _ n01.symm, World.cell?_setCell_same _ _ _ h0]
  · rw [World.cell?_setCell_other _ _ _ _ n13.symm, World.cell?_setCell_other _ _ _ _ n12.symm]
    exact World.cell?_setCell_same _ _ _ ((World.cell?_setCell_other _ _ _ _ n01).trans h1)
  · rw [World.cell?_setCell_other _ _ _ _ n23.symm]
    exact World.cell?_setCell_same _ _ _ ((World.cell?_setCell_other _ _ _ _ n12).trans ((World.cell?_setCell_other _ _ _ _ n02).trans h2))
  · exact World.cell?_setCell_same _ _ _ ((World.cell?_setCell_other _ _ _ _ n23).trans ((World.cell?_setCell_other _ _ _ _ n13).trans ((World.cell?_setCell_other _ _ _ _ n03).trans h3)))
theorem StepsAt.snoc {w : World} {b off : Nat} {l : List St} {s : St} (h : StepsAt w b off l) {x0 x1 x2 x3 : Value} (h0 : w.cell? ⟨b, off + l.length * 4, none⟩ = some x0) (h1 : w.cell? ⟨b, off + l.length * 4 + 1, none⟩ = some x1)
    (h2 : w.cell? ⟨b, off + l.length * 4 + 2, none⟩ = some x2) (h3 : w.cell? ⟨b, off + l.length * 4 + 3, none⟩ = some x3) : StepsAt (set4 w b (off + l.length * 4) s) b off (l ++ [s]) := by
  intro i hi
  simp only [List.length_append, List.length_cons, List.length_nil] at hi
  by_cases hil : i < l.length
  · have e : (l ++ [s]).getD i stz = l.getD i stz := by simp [List.getD, List.getElem?_append_left hil]
    rw [e, set4_other (by omega), set4_other (by omega), set4_other (by omega), set4_other (by omega)]
    exact h i hil
  · have hi' : i = l.length := by omega
    subst hi'
    have e : (l ++ [s]).getD l.length stz = s := by simp [List.getD]
    rw [e]
    exact set4_same h0 h1 h2 h3
theorem StepsAt.set {w : World} {b off : Nat} {l : List St} {s : St} (h : StepsAt w b off l) {k : Nat} (hk : k < l.length) : StepsAt (set4 w b (off + k * 4) s) b off (l.set k s) := by
  intro i hi
  rw [List.length_set] at hi
  obtain ⟨h0, h1, h2, h3⟩ := h k hk
  by_cases hik : i = k
  · subst hik
    have e : (l.set i s).getD i stz = s := by simp [List.getD, hi]
    rw [e]
    exact set4_same h0 h1 h2 h3
  · have e : (l.set k s).getD i stz = l.getD i stz := by simp [List.getD, List.getElem?_set_ne (Ne.symm hik)]
    rw [e, set4_other (by omega), set4_other (by omega), set4_other (by omega), set4_other (by omega)]
    exact h i hi
theorem below_set4 {B b o : Nat} {w0 w : World} {s : St} (h : Below B w0 w) (hb : B ≤ b) : Below B w0 (set4 w b o s) :=
  (((h.setCell (p := ⟨b, _, none⟩) hb _).setCell (p := ⟨b, _, none⟩) hb _).setCell (p := ⟨b, _, none⟩) hb _).setCell (p := ⟨b, _, none⟩) hb _
theorem size_set4 (w : World) (b o : Nat) (s : St) : (set4 w b o s).heap.size = w.heap.size := by simp [set4]
theorem StepsAt.alloc {w : World} {b off : Nat} {l : List St} (h : StepsAt w b off l) (hb : b < w.heap.size) (o : Obj) : StepsAt (w.alloc o) b off l :=
  h.below ((Below.refl _ _).alloc (Nat.le_refl _) o) hb
end Go.Proofs.YtlbmcdoldnajoaaGreat
