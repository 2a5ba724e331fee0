import Derived.Test.YtlbmcdoldnajoaaGreatKeepP
set_option maxRecDepth 100000
set_option maxHeartbeats 4000000
namespace Go.Proofs.YtlbmcdoldnajoaaGreat
open Go.RowKit
theorem keepInts_some (B : Nat) (W : World) (pb : Nat) (dv : Value) (one : Bool) (ia : Option Addr) (ic : Nat) (pv : Value) (vs ps : List Value) (g n cap : Nat) (xs : List Value) (N : Nat) (hN : N = vs.length) (hN1 : N ≤ 1000000000000) (h : LW B W pb dv one (.slice ia N ic) pv vs ps) (hl : W.ownsRow B 3 1 (Value.slice (some ⟨g, 0, none⟩) n cap) n xs) (hn : n ≤ 300) (hfresh : FreshTo vs (Value.slice (some ⟨g, 0, none⟩) n cap)) :
    Calls Tryz.prog 31 #[.pointer (some ⟨pb, 0, none⟩), .slice (some ⟨g, 0, none⟩) n cap] W fun e W' => KeptI B W pb dv one (.slice ia N ic) pv vs ps (Value.slice (some ⟨g, 0, none⟩) n cap) e W' := by
  have c2 : W.cell? ⟨pb, 2, none⟩ = some (.slice ia N ic) := by rw [blk_cell h.blk]; rfl
  have hxl : xs.length = n := by have := hl.1; omega
  have HXL : Hid (xs.length = n) := hxl
  have HL : Hid (LW B W pb dv one (.slice ia N ic) pv vs ps) := h
  have HO : Hid (W.ownsRow B 3 1 (Value.slice (some ⟨g, 0, none⟩) n cap) n xs) := hl
  have HF : Hid (FreshTo vs (Value.slice (some ⟨g, 0, none⟩) n cap)) := hfresh
  have HN : Hid (N = vs.length) := hN
  have hmk : Hid (-1000 - (N : Int) / 4 = markN N) := by show _ = _; simp only [markN]; omega
  have hBW : B ≤ W.heap.size := by have := blk_lt h.blk; have := h.bpb; omega
  have hlt0 := blk_lt h.blk
  have f2 : W.frozen? ⟨pb, 2, none⟩ = false := blk_free h.blk
  clear h hl hfresh hN hxl
  go_enter Tryz.func31, Tryz.ntmps31
  go_wp2
  go_loopw [5] (fun i wr => ∃ j : Nat, j ≤ n ∧ i = .int .i64 j ∧ Filled B W 3 1 (Value.slice (some ⟨g, 0, none⟩) n cap) n (List.replicate j (.int .i64 (-1000 - (N : Int) / 4)) ++ xs.drop j) wr) (fun i _ => n - (intOf i).toNat)
  case atStart => exact ⟨0, Nat.zero_le _, rfl, by simpa using HO.out, Fr.refl _ _⟩
  case round =>
    obtain ⟨j, hjn, rfl, hown, hfr⟩ := hrel
    have HOw : Hid (wr.ownsRow B 3 1 (Value.slice (some ⟨g, 0, none⟩) n cap) n (List.replicate j (.int .i64 (-1000 - (N : Int) / 4)) ++ xs.drop j)) := hown
    have HFr : Hid (Fr (fun k => (Value.slice (some ⟨g, 0, none⟩) n cap).ownBlock = some k) W wr) := hfr
    by_cases hlt : j < n
    · obtain ⟨cv, hcv⟩ : ∃ cv, wr.cell? ⟨g, j, none⟩ = some cv := by
        rw [hown.cellAt j (by omega)]
        exact ⟨_, List.getElem?_eq_getElem (by have := hown.1; omega)⟩
      have hff := hown.frozenAt j
      clear hown hfr
      have m1 : (0 : Int) ≤ (j : Int) := by omega
      have m2 : (j : Int) < (n : Int) := by omega
      go_wp2_with (go_at_call 17; refine (mark_any ((N : Int) / 4) _ (by omega) (by omega)).mono ?_; rintro e wv ⟨rfl, hwv⟩; obtain rfl := hwv.symm)
      go_roundw
      case rel =>
        refine ⟨j + 1, by omega, by go_num, ?_, HFr.out.setCell (p := ⟨g, j, none⟩) (fun _ => rfl) _⟩
        have := (HOw.out.stored j (.int .i64 (-1000 - (N : Int) / 4))).1
        rwa [rep_set _ _ _ (by have := HXL.out; omega)] at this
      case measure => simp [intOf]; omega
    · have hjn' : n = j := by omega
      clear hown hfr
      have HW1 : Hid (wr.ownsRow B 3 1 (Value.slice (some ⟨g, 0, none⟩) n cap) n (List.replicate n (.int .i64 (-1000 - (N : Int) / 4)))) := by
        have := HOw.out
        rwa [← hjn', List.drop_of_length_le (by have := HXL.out; omega), List.append_nil] at this
      clear hjn'
      have hsz := HFr.out.size
      have HLV : Hid (∀ k, (Value.slice (some ⟨g, 0, none⟩) n cap).ownBlock = some k → ∃ cur, W.heap[k]? = some (Obj.cells cur 3 (0, 0))) := fun k hk => by
        rcases HO.out.2 with ⟨e, _⟩ | ⟨g', c', u', e, _, hh, _⟩
        · rw [e] at hk; cases hk
        · rw [e] at hk; injection hk with hk; have hk : g' = k := hk; subst hk; exact ⟨u', hh⟩
      have HIV : Hid (wr.ownsRow B 55 1 (.slice ia N ic) N vs) := by
        have := HL.out.ints
        rw [← HN.out] at this
        exact owns_fr this HFr.out (fun k hk hl => by obtain ⟨cur, hc⟩ := HLV.out k hl; exact owns_ne this hc (by decide) hk)
      have nlp : ¬ (Value.slice (some ⟨g, 0, none⟩) n cap).ownBlock = some pb := fun e => by obtain ⟨cur, hc⟩ := HLV.out pb e; exact blk_ne hc HL.out.blk (by decide) rfl
      go_wp2_with (first | (go_at_call 17; refine (mark_any ((N : Int) / 4) _ (by omega) (by omega)).mono ?_; rintro e wv ⟨rfl, hwv⟩; obtain rfl := hwv.symm) | (at_builtin; refine wpList_one (.tmp 26) (.tmp 30) (by rfl) (by rfl) (by rfl) (by rfl) HW1.out (by omega) (by omega) ?_))
      intro g1 cap1 W2 a1 a2 a3 a4
      have HA1 : Hid (W2.ownsRow B 3 1 (.slice (some ⟨g1, 0, none⟩) (n + 1) cap1) (n + 1) (List.replicate (n + 1) (.int .i64 (-1000 - (N : Int) / 4)))) := a1
      have HL2 : Hid (W2.ownsRow B 3 1 (Value.slice (some ⟨g, 0, none⟩) n cap) n (List.replicate n (.int .i64 (-1000 - (N : Int) / 4)))) := a2 _ _ _ _ _ _ HW1.out (fun _ => by omega)
      have HI2 : Hid (W2.ownsRow B 55 1 (.slice ia N ic) N vs) := a2 _ _ _ _ _ _ HIV.out (fun e => by have := own_apart HIV.out HW1.out (by decide) e; omega)
      have HF2 : Hid (Fr (fun k => (Value.slice (some ⟨g, 0, none⟩) n cap).ownBlock = some k) W W2) := HFr.out.trans a3 (fun _ _ h => h)
      have HG1 : Hid (∀ k, (Value.slice (some ⟨g1, 0, none⟩) (n + 1) cap1).ownBlock = some k → k < W.heap.size → (Value.slice (some ⟨g, 0, none⟩) n cap).ownBlock = some k) := fun k hk hlt => by
        injection hk with hk; have hk : g1 = k := hk; subst hk
        rcases a4 with h | h
        · exact h
        · omega
      have hs2 := a3.size
      clear a1 a2 a3 a4
      go_wp2_with (first | (go_at_call 17; refine (mark_any ((N : Int) / 4) _ (by omega) (by omega)).mono ?_; rintro e wv ⟨rfl, hwv⟩; obtain rfl := hwv.symm) | (at_builtin; refine wpList_one (.tmp 32) (.tmp 36) (by rfl) (by rfl) (by rfl) (by rfl) HA1.out (by omega) (by omega) ?_))
      intro g2 cap2 W3 a1 a2 a3 a4
      have HA2 : Hid (W3.ownsRow B 3 1 (.slice (some ⟨g2, 0, none⟩) (n + 1 + 1) cap2) (n + 1 + 1) (List.replicate (n + 1 + 1) (.int .i64 (-1000 - (N : Int) / 4)))) := a1
      have HL3 : Hid (W3.ownsRow B 3 1 (Value.slice (some ⟨g, 0, none⟩) n cap) n (List.replicate n (.int .i64 (-1000 - (N : Int) / 4)))) := a2 _ _ _ _ _ _ HL2.out (fun _ => by omega)
      have HA13 : Hid (W3.ownsRow B 3 1 (.slice (some ⟨g1, 0, none⟩) (n + 1) cap1) (n + 1) (List.replicate (n + 1) (.int .i64 (-1000 - (N : Int) / 4)))) := a2 _ _ _ _ _ _ HA1.out (fun _ => by omega)
      have HI3 : Hid (W3.ownsRow B 55 1 (.slice ia N ic) N vs) := a2 _ _ _ _ _ _ HI2.out (fun e => by have := own_apart HI2.out HA1.out (by decide) e; omega)
      have HF3 : Hid (Fr (fun k => (Value.slice (some ⟨g, 0, none⟩) n cap).ownBlock = some k) W W3) := HF2.out.trans a3 (fun k hk h => HG1.out k h hk)
      have HG2 : Hid (∀ k, (Value.slice (some ⟨g2, 0, none⟩) (n + 1 + 1) cap2).ownBlock = some k → k < W.heap.size → (Value.slice (some ⟨g, 0, none⟩) n cap).ownBlock = some k) := fun k hk hlt => by
        rcases a4 with h | h
        · exact HG1.out k (h.trans hk) hlt
        · injection hk with hk; have hk : g2 = k := hk; omega
      have hs3 := a3.size
      clear a1 a2 a3 a4
      go_wp2_with (first | (go_at_call 17; refine (mark_any ((N : Int) / 4) _ (by omega) (by omega)).mono ?_; rintro e wv ⟨rfl, hwv⟩; obtain rfl := hwv.symm) | (at_builtin; refine wpList_one (.tmp 38) (.tmp 42) (by rfl) (by rfl) (by rfl) (by rfl) HA2.out (by omega) (by omega) ?_))
      intro g3 cap3 W4 a1 a2 a3 a4
      have HA3 : Hid (W4.ownsRow B 3 1 (.slice (some ⟨g3, 0, none⟩) (n + 1 + 1 + 1) cap3) (n + 1 + 1 + 1) (List.replicate (n + 1 + 1 + 1) (.int .i64 (-1000 - (N : Int) / 4)))) := a1
      have HL4 : Hid (W4.ownsRow B 3 1 (Value.slice (some ⟨g, 0, none⟩) n cap) n (List.replicate n (.int .i64 (-1000 - (N : Int) / 4)))) := a2 _ _ _ _ _ _ HL3.out (fun _ => by omega)
      have HA14 : Hid (W4.ownsRow B 3 1 (.slice (some ⟨g1, 0, none⟩) (n + 1) cap1) (n + 1) (List.replicate (n + 1) (.int .i64 (-1000 - (N : Int) / 4)))) := a2 _ _ _ _ _ _ HA13.out (fun _ => by omega)
      have HA24 : Hid (W4.ownsRow B 3 1 (.slice (some ⟨g2, 0, none⟩) (n + 1 + 1) cap2) (n + 1 + 1) (List.replicate (n + 1 + 1) (.int .i64 (-1000 - (N : Int) / 4)))) := a2 _ _ _ _ _ _ HA2.out (fun _ => by omega)
      have HI4 : Hid (W4.ownsRow B 55 1 (.slice ia N ic) N vs) := a2 _ _ _ _ _ _ HI3.out (fun e => by have := own_apart HI3.out HA2.out (by decide) e; omega)
      have HF4 : Hid (Fr (fun k => (Value.slice (some ⟨g, 0, none⟩) n cap).ownBlock = some k) W W4) := HF3.out.trans a3 (fun k hk h => HG2.out k h hk)
      have hs4 := a3.size
      have HG3 : Hid (∀ k, (Value.slice (some ⟨g3, 0, none⟩) (n + 1 + 1 + 1) cap3).ownBlock = some k → k < W.heap.size → (Value.slice (some ⟨g, 0, none⟩) n cap).ownBlock = some k) := fun k hk hlt => by
        rcases a4 with h | h
        · exact HG2.out k (h.trans hk) hlt
        · injection hk with hk; have hk : g3 = k := hk; omega
      have d2 : W4.cell? ⟨pb, 2, none⟩ = some (.slice ia N ic) := (HF4.out.cell hlt0 nlp).trans c2
      clear a1 a2 a3 a4 c2
      obtain ⟨j0, hj0, hy0, hy1, hy2⟩ := info_parts Tryz.infoInts
      go_wp2_with (at_builtin; refine wpList_append_keep (by rfl) (.tmp 48) (.tmp 53) 27 (by rfl) B 55 j0 _ 1 24 Tryz.underlying27 hj0 hy0 hy1 hy2 (by rfl) (by decide) _ N _ (by rfl) (HI4.out.alloc _) ⟨W4.heap.size, 0, none⟩ 4 4 [Value.slice (some ⟨g, 0, none⟩) n cap, .slice (some ⟨g1, 0, none⟩) (n + 1) cap1, .slice (some ⟨g2, 0, none⟩) (n + 1 + 1) cap2, .slice (some ⟨g3, 0, none⟩) (n + 1 + 1 + 1) cap3] (by rfl) (by rfl) (World.news_of_block (heap_alloc_new W4 _)) ?_ (by decide) ?_ ?_ ?_ ?_)
      · intro u hu; simp at hu; rcases hu with rfl | rfl | rfl | rfl <;> rfl
      · unfold maxLen; omega
      · omega
      · simp; omega
      · intro g5 cap5 W5 b1 b2 b3 b4 b5
        have HR : Hid (W5.ownsRow B 55 1 (.slice (some ⟨g5, 0, none⟩) (N + 4) cap5) (N + 4) (vs ++ [Value.slice (some ⟨g, 0, none⟩) n cap, .slice (some ⟨g1, 0, none⟩) (n + 1) cap1, .slice (some ⟨g2, 0, none⟩) (n + 1 + 1) cap2, .slice (some ⟨g3, 0, none⟩) (n + 1 + 1 + 1) cap3])) := b1
        have HK : Hid (KeepsRows W4 W5 (.slice ia N ic) N) := fun b e s u k ys hu hk => b2 b e s u k ys (hu.alloc _) (fun e => by first | exact hk e | (rw [Nat.mul_one]; exact hk e))
        have HF5 : Hid (Fr (fun k => (Value.slice ia N ic).ownBlock = some k) W4 W5) := ((Fr.refl _ W4).alloc _).grown b3 (fun k hk _ => hk)
        have nip : ¬ (Value.slice ia N ic).ownBlock = some pb := owns_ne HL.out.ints HL.out.blk (by decide)
        have k2 : W5.cell? ⟨pb, 2, none⟩ = some (.slice ia N ic) := (HF5.out.cell (Nat.lt_of_lt_of_le hlt0 HF4.out.size) nip).trans d2
        have e2 : W5.frozen? ⟨pb, 2, none⟩ = false := (HF5.out.frozen (Nat.lt_of_lt_of_le hlt0 HF4.out.size) nip).trans ((HF4.out.frozen hlt0 nlp).trans f2)
        have HG5 : Hid (∀ k, k < W.heap.size → (Value.slice (some ⟨g5, 0, none⟩) (N + 4) cap5).ownBlock = some k → (Value.slice ia N ic).ownBlock = some k) := fun k hlt hk => by
          injection hk with hk
          have hk : g5 = k := hk
          subst hk
          rcases b4 with h | h
          · exact h
          · have := HF4.out.size; omega
        clear b1 b2 b3 b4 b5 d2 nip nlp f2
        go_wp2
        go_end0
        have hm := hmk.out
        have eN := HN.out
        subst eN
        have z0 := HL4.out
        have z1 := HA14.out
        have z2 := HA24.out
        have z3 := HA3.out
        rw [hm] at z0 z1 z2 z3
        exact keepInts_end HL.out (by omega) HF4.out HF.out HLV.out z0 z1 z2 z3 HK.out HF5.out HR.out (fun k hk => ⟨HG5.out k hk, fun h => h.elim (fun h => HG1.out k h hk) (fun h => h.elim (fun h => HG2.out k h hk) (fun h => HG3.out k h hk))⟩)
theorem keepInts_nil (B : Nat) (W : World) (pb : Nat) (dv : Value) (one : Bool) (ia : Option Addr) (ic : Nat) (pv : Value) (vs ps : List Value) (xs : List Value) (N : Nat) (hN : N = vs.length) (hN1 : N ≤ 1000000000000) (h : LW B W pb dv one (.slice ia N ic) pv vs ps) (hl : W.ownsRow B 3 1 (Value.slice none 0 0) 0 xs) (hfresh : FreshTo vs (Value.slice none 0 0)) :
    Calls Tryz.prog 31 #[.pointer (some ⟨pb, 0, none⟩), Value.slice none 0 0] W fun e W' => KeptI B W pb dv one (.slice ia N ic) pv vs ps (Value.slice none 0 0) e W' := by
  have c2 : W.cell? ⟨pb, 2, none⟩ = some (.slice ia N ic) := by rw [blk_cell h.blk]; rfl
  have hxl : xs.length = 0 := by have := hl.1; omega
  have HXL : Hid (xs.length = 0) := hxl
  have HL : Hid (LW B W pb dv one (.slice ia N ic) pv vs ps) := h
  have HO : Hid (W.ownsRow B 3 1 (Value.slice none 0 0) 0 xs) := hl
  have HF : Hid (FreshTo vs (Value.slice none 0 0)) := hfresh
  have HN : Hid (N = vs.length) := hN
  have hmk : Hid (-1000 - (N : Int) / 4 = markN N) := by show _ = _; simp only [markN]; omega
  have hBW : B ≤ W.heap.size := by have := blk_lt h.blk; have := h.bpb; omega
  have hlt0 := blk_lt h.blk
  have f2 : W.frozen? ⟨pb, 2, none⟩ = false := blk_free h.blk
  clear h hl hfresh hN hxl
  go_enter Tryz.func31, Tryz.ntmps31
  go_wp2
  go_loop [5] (fun i => i = .int .i64 0) (fun _ => 0)
  case atStart => rfl
  case round =>
    subst hrel
    · have HFr : Hid (Fr (fun k => (Value.slice none 0 0).ownBlock = some k) W W) := Fr.refl _ _
      have HW1 : Hid (W.ownsRow B 3 1 (Value.slice none 0 0) 0 (List.replicate 0 (.int .i64 (-1000 - (N : Int) / 4)))) := World.ownsRow_nil _ _ _ _
      have hsz := HFr.out.size
      have HLV : Hid (∀ k, (Value.slice none 0 0).ownBlock = some k → ∃ cur, W.heap[k]? = some (Obj.cells cur 3 (0, 0))) := fun k hk => by
        rcases HO.out.2 with ⟨e, _⟩ | ⟨g', c', u', e, _, hh, _⟩
        · rw [e] at hk; cases hk
        · rw [e] at hk; injection hk with hk; have hk : g' = k := hk; subst hk; exact ⟨u', hh⟩
      have HIV : Hid (W.ownsRow B 55 1 (.slice ia N ic) N vs) := by
        have := HL.out.ints
        rw [← HN.out] at this
        exact owns_fr this HFr.out (fun k hk hl => by obtain ⟨cur, hc⟩ := HLV.out k hl; exact owns_ne this hc (by decide) hk)
      have nlp : ¬ (Value.slice none 0 0).ownBlock = some pb := fun e => by obtain ⟨cur, hc⟩ := HLV.out pb e; exact blk_ne hc HL.out.blk (by decide) rfl
      go_wp2_with (first | (go_at_call 17; refine (mark_any ((N : Int) / 4) _ (by omega) (by omega)).mono ?_; rintro e wv ⟨rfl, hwv⟩; obtain rfl := hwv.symm) | (at_builtin; refine wpList_one (.tmp 26) (.tmp 30) (by rfl) (by rfl) (by rfl) (by rfl) HW1.out (by omega) (by omega) ?_))
      intro g1 cap1 W2 a1 a2 a3 a4
      have HA1 : Hid (W2.ownsRow B 3 1 (.slice (some ⟨g1, 0, none⟩) (0 + 1) cap1) (0 + 1) (List.replicate (0 + 1) (.int .i64 (-1000 - (N : Int) / 4)))) := a1
      have HL2 : Hid (W2.ownsRow B 3 1 (Value.slice none 0 0) 0 (List.replicate 0 (.int .i64 (-1000 - (N : Int) / 4)))) := a2 _ _ _ _ _ _ HW1.out (fun _ => by omega)
      have HI2 : Hid (W2.ownsRow B 55 1 (.slice ia N ic) N vs) := a2 _ _ _ _ _ _ HIV.out (fun e => by have := own_apart HIV.out HW1.out (by decide) e; omega)
      have HF2 : Hid (Fr (fun k => (Value.slice none 0 0).ownBlock = some k) W W2) := HFr.out.trans a3 (fun _ _ h => h)
      have HG1 : Hid (∀ k, (Value.slice (some ⟨g1, 0, none⟩) (0 + 1) cap1).ownBlock = some k → k < W.heap.size → (Value.slice none 0 0).ownBlock = some k) := fun k hk hlt => by
        injection hk with hk; have hk : g1 = k := hk; subst hk
        rcases a4 with h | h
        · exact h
        · omega
      have hs2 := a3.size
      clear a1 a2 a3 a4
      go_wp2_with (first | (go_at_call 17; refine (mark_any ((N : Int) / 4) _ (by omega) (by omega)).mono ?_; rintro e wv ⟨rfl, hwv⟩; obtain rfl := hwv.symm) | (at_builtin; refine wpList_one (.tmp 32) (.tmp 36) (by rfl) (by rfl) (by rfl) (by rfl) HA1.out (by omega) (by omega) ?_))
      intro g2 cap2 W3 a1 a2 a3 a4
      have HA2 : Hid (W3.ownsRow B 3 1 (.slice (some ⟨g2, 0, none⟩) (0 + 1 + 1) cap2) (0 + 1 + 1) (List.replicate (0 + 1 + 1) (.int .i64 (-1000 - (N : Int) / 4)))) := a1
      have HL3 : Hid (W3.ownsRow B 3 1 (Value.slice none 0 0) 0 (List.replicate 0 (.int .i64 (-1000 - (N : Int) / 4)))) := a2 _ _ _ _ _ _ HL2.out (fun _ => by omega)
      have HA13 : Hid (W3.ownsRow B 3 1 (.slice (some ⟨g1, 0, none⟩) (0 + 1) cap1) (0 + 1) (List.replicate (0 + 1) (.int .i64 (-1000 - (N : Int) / 4)))) := a2 _ _ _ _ _ _ HA1.out (fun _ => by omega)
      have HI3 : Hid (W3.ownsRow B 55 1 (.slice ia N ic) N vs) := a2 _ _ _ _ _ _ HI2.out (fun e => by have := own_apart HI2.out HA1.out (by decide) e; omega)
      have HF3 : Hid (Fr (fun k => (Value.slice none 0 0).ownBlock = some k) W W3) := HF2.out.trans a3 (fun k hk h => HG1.out k h hk)
      have HG2 : Hid (∀ k, (Value.slice (some ⟨g2, 0, none⟩) (0 + 1 + 1) cap2).ownBlock = some k → k < W.heap.size → (Value.slice none 0 0).ownBlock = some k) := fun k hk hlt => by
        rcases a4 with h | h
        · exact HG1.out k (h.trans hk) hlt
        · injection hk with hk; have hk : g2 = k := hk; omega
      have hs3 := a3.size
      clear a1 a2 a3 a4
      go_wp2_with (first | (go_at_call 17; refine (mark_any ((N : Int) / 4) _ (by omega) (by omega)).mono ?_; rintro e wv ⟨rfl, hwv⟩; obtain rfl := hwv.symm) | (at_builtin; refine wpList_one (.tmp 38) (.tmp 42) (by rfl) (by rfl) (by rfl) (by rfl) HA2.out (by omega) (by omega) ?_))
      intro g3 cap3 W4 a1 a2 a3 a4
      have HA3 : Hid (W4.ownsRow B 3 1 (.slice (some ⟨g3, 0, none⟩) (0 + 1 + 1 + 1) cap3) (0 + 1 + 1 + 1) (List.replicate (0 + 1 + 1 + 1) (.int .i64 (-1000 - (N : Int) / 4)))) := a1
      have HL4 : Hid (W4.ownsRow B 3 1 (Value.slice none 0 0) 0 (List.replicate 0 (.int .i64 (-1000 - (N : Int) / 4)))) := a2 _ _ _ _ _ _ HL3.out (fun _ => by omega)
      have HA14 : Hid (W4.ownsRow B 3 1 (.slice (some ⟨g1, 0, none⟩) (0 + 1) cap1) (0 + 1) (List.replicate (0 + 1) (.int .i64 (-1000 - (N : Int) / 4)))) := a2 _ _ _ _ _ _ HA13.out (fun _ => by omega)
      have HA24 : Hid (W4.ownsRow B 3 1 (.slice (some ⟨g2, 0, none⟩) (0 + 1 + 1) cap2) (0 + 1 + 1) (List.replicate (0 + 1 + 1) (.int .i64 (-1000 - (N : Int) / 4)))) := a2 _ _ _ _ _ _ HA2.out (fun _ => by omega)
      have HI4 : Hid (W4.ownsRow B 55 1 (.slice ia N ic) N vs) := a2 _ _ _ _ _ _ HI3.out (fun e => by have := own_apart HI3.out HA2.out (by decide) e; omega)
      have HF4 : Hid (Fr (fun k => (Value.slice none 0 0).ownBlock = some k) W W4) := HF3.out.trans a3 (fun k hk h => HG2.out k h hk)
      have hs4 := a3.size
      have HG3 : Hid (∀ k, (Value.slice (some ⟨g3, 0, none⟩) (0 + 1 + 1 + 1) cap3).ownBlock = some k → k < W.heap.size → (Value.slice none 0 0).ownBlock = some k) := fun k hk hlt => by
        rcases a4 with h | h
        · exact HG2.out k (h.trans hk) hlt
        · injection hk with hk; have hk : g3 = k := hk; omega
      have d2 : W4.cell? ⟨pb, 2, none⟩ = some (.slice ia N ic) := (HF4.out.cell hlt0 nlp).trans c2
      clear a1 a2 a3 a4 c2
      obtain ⟨j0, hj0, hy0, hy1, hy2⟩ := info_parts Tryz.infoInts
      go_wp2_with (at_builtin; refine wpList_append_keep (by rfl) (.tmp 48) (.tmp 53) 27 (by rfl) B 55 j0 _ 1 24 Tryz.underlying27 hj0 hy0 hy1 hy2 (by rfl) (by decide) _ N _ (by rfl) (HI4.out.alloc _) ⟨W4.heap.size, 0, none⟩ 4 4 [Value.slice none 0 0, .slice (some ⟨g1, 0, none⟩) (0 + 1) cap1, .slice (some ⟨g2, 0, none⟩) (0 + 1 + 1) cap2, .slice (some ⟨g3, 0, none⟩) (0 + 1 + 1 + 1) cap3] (by rfl) (by rfl) (World.news_of_block (heap_alloc_new W4 _)) ?_ (by decide) ?_ ?_ ?_ ?_)
      · intro u hu; simp at hu; rcases hu with rfl | rfl | rfl | rfl <;> rfl
      · unfold maxLen; omega
      · omega
      · simp; omega
      · intro g5 cap5 W5 b1 b2 b3 b4 b5
        have HR : Hid (W5.ownsRow B 55 1 (.slice (some ⟨g5, 0, none⟩) (N + 4) cap5) (N + 4) (vs ++ [Value.slice none 0 0, .slice (some ⟨g1, 0, none⟩) (0 + 1) cap1, .slice (some ⟨g2, 0, none⟩) (0 + 1 + 1) cap2, .slice (some ⟨g3, 0, none⟩) (0 + 1 + 1 + 1) cap3])) := b1
        have HK : Hid (KeepsRows W4 W5 (.slice ia N ic) N) := fun b e s u k ys hu hk => b2 b e s u k ys (hu.alloc _) (fun e => by first | exact hk e | (rw [Nat.mul_one]; exact hk e))
        have HF5 : Hid (Fr (fun k => (Value.slice ia N ic).ownBlock = some k) W4 W5) := ((Fr.refl _ W4).alloc _).grown b3 (fun k hk _ => hk)
        have nip : ¬ (Value.slice ia N ic).ownBlock = some pb := owns_ne HL.out.ints HL.out.blk (by decide)
        have k2 : W5.cell? ⟨pb, 2, none⟩ = some (.slice ia N ic) := (HF5.out.cell (Nat.lt_of_lt_of_le hlt0 HF4.out.size) nip).trans d2
        have e2 : W5.frozen? ⟨pb, 2, none⟩ = false := (HF5.out.frozen (Nat.lt_of_lt_of_le hlt0 HF4.out.size) nip).trans ((HF4.out.frozen hlt0 nlp).trans f2)
        have HG5 : Hid (∀ k, k < W.heap.size → (Value.slice (some ⟨g5, 0, none⟩) (N + 4) cap5).ownBlock = some k → (Value.slice ia N ic).ownBlock = some k) := fun k hlt hk => by
          injection hk with hk
          have hk : g5 = k := hk
          subst hk
          rcases b4 with h | h
          · exact h
          · have := HF4.out.size; omega
        clear b1 b2 b3 b4 b5 d2 nip nlp f2
        go_wp2
        go_end0
        have hm := hmk.out
        have eN := HN.out
        subst eN
        have z0 := HL4.out
        have z1 := HA14.out
        have z2 := HA24.out
        have z3 := HA3.out
        rw [hm] at z0 z1 z2 z3
        exact keepInts_end HL.out (by omega) HF4.out HF.out HLV.out z0 z1 z2 z3 HK.out HF5.out HR.out (fun k hk => ⟨HG5.out k hk, fun h => h.elim (fun h => HG1.out k h hk) (fun h => h.elim (fun h => HG2.out k h hk) (fun h => HG3.out k h hk))⟩)
theorem keepInts_any (B : Nat) (W : World) (pb : Nat) (dv : Value) (one : Bool) (iv pv : Value) (vs ps : List Value) (lv : Value) (n : Nat) (xs : List Value) (hN1 : vs.length ≤ 1000000000000) (h : LW B W pb dv one iv pv vs ps) (hl : W.ownsRow B 3 1 lv n xs) (hn : n ≤ 300) (hfresh : FreshTo vs lv) :
    Calls Tryz.prog 31 #[.pointer (some ⟨pb, 0, none⟩), lv] W fun e W' => KeptI B W pb dv one iv pv vs ps lv e W' := by
  obtain ⟨ia, ic, rfl⟩ := owns_form' h.ints
  rcases hl.2 with ⟨rfl, rfl⟩ | ⟨g, cap, cur, rfl, _⟩
  · exact keepInts_nil B W pb dv one ia ic pv vs ps xs _ rfl hN1 h hl hfresh
  · exact keepInts_some B W pb dv one ia ic pv vs ps g n cap xs _ rfl hN1 h hl hn hfresh
end Go.Proofs.YtlbmcdoldnajoaaGreat
