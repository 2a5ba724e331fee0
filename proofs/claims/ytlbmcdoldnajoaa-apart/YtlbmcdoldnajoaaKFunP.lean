import Derived.Test.YtlbmcdoldnajoaaKFunO
import Derived.Test.YtlbmcdoldnajoaaKPp

namespace Go.Proofs.Ytlbmcdoldnajoaa
open Go.RowKit
theorem mkSt_ap (x0 x1 x2 x3 : Int) (i n lo : Nat) (hlo : lo ≤ 8) : stB (mkSt x0 x1 x2 x3 i n lo 4) (i + 1) (n + 1) = true ∧ ApJ lo (mkSt x0 x1 x2 x3 i n lo 4) := by
  have a1 := pickI_lo x0 (n := 12) (by omega)
  have a2 := pickI_hi x0 (n := 12) (by omega)
  have b1 := pickI_lo x1 (n := 4) (by omega)
  have b2 := pickI_hi x1 (n := 4) (by omega)
  have d1 := pickI_lo x3 (n := 4) (by omega)
  have d2 := pickI_hi x3 (n := 4) (by omega)
  have e1 := pickI_lo x2 (n := 1000) (by omega)
  have e2 := pickI_hi x2 (n := 1000) (by omega)
  have f1 := pickI_lo x2 (n := 4) (by omega)
  have f2 := pickI_hi x2 (n := 4) (by omega)
  unfold mkSt
  simp only
  generalize pickI x0 12 = y at *
  rcases (show y = 0 ∨ y = 1 ∨ y = 2 ∨ y = 3 ∨ y = 4 ∨ y = 5 ∨ y = 6 ∨ y = 7 ∨ y = 8 ∨ y = 9 ∨ y = 10 ∨ y = 11 by omega) with rfl | rfl | rfl | rfl | rfl | rfl | rfl | rfl | rfl | rfl | rfl | rfl
  · simp [stB, stepB, regB, inB, ApJ]; omega
  · simp [stB, stepB, regB, keyB, ApJ]; omega
  · simp [stB, stepB, regB, keyB, ApJ]; omega
  · simp [stB, stepB, keyB, ApJ]; omega
  · simp; split <;> (simp [stB, stepB, regB, keyB, ApJ]; omega)
  · simp; split <;> (simp [stB, stepB, regB, keyB, ApJ]; omega)
  · simp [stB, stepB, regB, ApJ]; omega
  · simp [stB, stepB, regB, ApJ]; omega
  · simp
    split
    · simp [stB, stepB, regB, ApJ]; omega
    · have g1 := pickI_lo x2 (n := (n : Int) - i - 1) (by omega)
      have g2 := pickI_hi x2 (n := (n : Int) - i - 1) (by omega)
      simp [stB, stepB, regB, inB, ApJ]; omega
  · simp
    split
    · simp [stB, stepB, regB, ApJ]; omega
    · have g1 := pickI_lo x2 (n := (i : Int)) (by omega)
      have g2 := pickI_hi x2 (n := (i : Int)) (by omega)
      simp [stB, stepB, regB, inB, ApJ]; omega
  · simp [stB, stepB, regB, ApJ]; omega
  · simp [stB, stepB, ApJ]
def st15 : St := ⟨2, 3, 15, 0⟩
def apL (xs : List Int) (lo : Nat) : List St := st15 :: mkL (xs.take 124) lo 4
theorem apL_len (xs : List Int) (lo : Nat) : (apL xs lo).length ≤ 32 := by
  have h1 := mkL_len (xs.take 124) lo 4
  have h2 : (xs.take 124).length ≤ 124 := by rw [List.length_take]; exact Nat.min_le_left _ _
  have h3 : mkN (xs.take 124) ≤ (xs.take 124).length / 4 := Nat.min_le_right _ _
  unfold apL
  rw [List.length_cons]
  omega
theorem mkL_at (xs : List Int) (lo kn : Int) {i : Nat} (hi : i < mkN xs) : (mkL xs lo kn).getD i stz = stAtL xs (mkN xs) lo kn i := by simp [mkL, mkT, List.getD, hi]
theorem apL_job (xs : List Int) {lo : Nat} (hlo : lo ≤ 8) : jobB (apL xs lo) = true := by
  have h0 := apL_len xs lo
  have hl := mkL_len (xs.take 124) lo 4
  simp only [jobB, Bool.and_eq_true, decide_eq_true_eq, List.all_eq_true, List.mem_range]
  refine ⟨h0, fun i hi => ?_⟩
  have e : (apL xs lo).length = mkN (xs.take 124) + 1 := by unfold apL; rw [List.length_cons, hl]
  rw [e] at hi ⊢
  cases i with
  | zero => simp [apL, st15, stB, stepB, regB, keyB]
  | succ i =>
    have e1 : (apL xs lo).getD (i + 1) stz = (mkL (xs.take 124) lo 4).getD i stz := by simp [apL, List.getD]
    rw [e1, mkL_at _ _ _ (by omega)]
    exact (mkSt_ap _ _ _ _ i (mkN (xs.take 124)) lo hlo).1
theorem apL_ap (xs : List Int) {lo : Nat} (hlo : lo ≤ 8) : ∀ s ∈ apL xs lo, ApJ lo s := fun s hs => by
  rcases List.mem_cons.1 hs with rfl | hs
  · simp [st15, ApJ]
  · obtain ⟨i, hi, rfl⟩ := List.mem_map.1 hs
    exact (mkSt_ap _ _ _ _ i (mkN (xs.take 124)) lo hlo).2
theorem IntsV.take {w : World} {ao : Option Addr} {n cap : Nat} {xs : List Int} (h : IntsV w (.slice ao n cap) xs) (k : Nat) (hk : k ≤ n) : IntsV w (.slice ao k cap) (xs.take k) := by
  obtain ⟨ao', cap', e, hm, h⟩ := h
  injection e with e1 e2 e3
  subst e1 e2 e3
  have hl : (xs.take k).length = k := by rw [List.length_take]; omega
  refine ⟨ao, cap, by rw [hl], by rw [hl]; omega, ?_⟩
  rcases h with h | ⟨b, off, h1, h2, h3⟩
  · left; rw [h]; simp
  · right
    refine ⟨b, off, h1, h2, fun i hi => ?_⟩
    rw [hl] at hi
    rw [h3 i (by omega)]
    simp [List.getD, hi]
/-- nothing is appended -/
theorem run_appN (w : World) (ty : TypeId) (g n cap c : Nat) (ao : Option Addr) (hn : n ≤ cap) : (Builtin.append_ #[22, 22] ty #[.slice (some ⟨g, 0, none⟩) n cap, .slice ao 0 c]).run Try.prog w = .ok (.slice (some ⟨g, 0, none⟩) n cap) w := by
  obtain ⟨i0, hi0, hz0, hz1, hz2⟩ := info_parts Try.infoStep
  cases ao with
  | none => simp [Builtin.append_, run_underlying Try.underlying22, sizeOf, typeInfo, hi0, Builtin.lenOf, Builtin.firstCells, storeCells, hn]
  | some ad => simp [Builtin.append_, run_underlying Try.underlying22, sizeOf, typeInfo, hi0, Builtin.lenOf, Builtin.firstCells, storeCells, loadCells, loadCellsFrom, hn]
theorem wpList_appN {w : World} {ops : Array Oper} {rest : List Oper} {o : Oper} {a : Act} {Q : Exit → Act → World → Prop} (hgd : o.guard = none) (s x : Operand)
    (ho : o.op = .call { callee := .builtin .append, args := #[s, x], argTypes := #[22, 22] }) (g n cap c : Nat) (ao : Option Addr) (hn : n ≤ cap) (hs : a.eval s = .slice (some ⟨g, 0, none⟩) n cap) (hx : a.eval x = .slice ao 0 c)
    (h : wpList Try.prog ops Q rest (a.put o.dst (.slice (some ⟨g, 0, none⟩) n cap)) w) : wpList Try.prog ops Q (o :: rest) a w := by
  refine wpList_plain hgd fun K hK => ?_
  have hrun := run_appN w o.type g n cap c ao hn
  unfold Oper.wp
  simp [execOp, ho, resolve, invoke, builtin, hs, hx, hrun, Result.andThen]
  exact hK _ _ h
theorem own15 (w : World) : (w.alloc (.cells #[.int .i64 2, .int .i64 3, .int .i64 15, .int .i64 0] 40)).ownsRow w.heap.size 40 4 (.slice (some ⟨w.heap.size, 0, none⟩) 1 1) 1 (stCells [st15]) :=
  ⟨rfl, Or.inr ⟨w.heap.size, 1, #[.int .i64 2, .int .i64 3, .int .i64 15, .int .i64 0], rfl, Nat.le_refl _, heap_alloc_new _ _, Nat.le_refl _, by decide, rfl, rfl⟩⟩
set_option maxRecDepth 100000 in
set_option maxHeartbeats 1000000 in
theorem apart_k (v : Value) (xs : List Int) (lo : Nat) (w : World) (hi : ∀ x ∈ xs, i64B x) (h : IntsV w v xs) (hc : ∀ ao n cap, v = .slice ao n cap → n ≤ cap) (hlo : lo ≤ 8) :
    Calls Try.prog 38 #[v, .int .i64 (lo : Int)] w fun e w' => StepsNew (apL xs lo) w e w' := by
  have H : Hid (IntsV w v xs ∧ (∀ x ∈ xs, i64B x)) := ⟨h, hi⟩
  obtain ⟨ao, cap, hv, hm, _⟩ := h
  obtain ⟨n, hn⟩ : ∃ n, n = xs.length := ⟨_, rfl⟩
  rw [← hn] at hv hm
  subst hv
  have HN : Hid (n = xs.length) := hn
  have hcap := hc _ _ _ rfl
  clear hc hi hn
  go_enter Try.func38, Try.ntmps38
  by_cases hbig : 124 < n
  · have m1 : (124 : Int) < (n : Int) := by omega
    have m2 : 124 ≤ cap := by omega
    have HT : Hid (IntsV w (.slice ao 124 cap) (xs.take 124)) := H.out.1.take 124 (by omega)
    go_wp2_with fail
    refine name_calls (p := fun X => X.ownsRow w.heap.size 40 4 (.slice (some ⟨w.heap.size, 0, none⟩) 1 1) 1 (stCells [st15]) ∧ Below w.heap.size w X) ⟨own15 w, (Below.refl _ _).alloc (Nat.le_refl _) _⟩ ?_
    rintro X hX
    have HX : Hid (X.ownsRow w.heap.size 40 4 (.slice (some ⟨w.heap.size, 0, none⟩) 1 1) 1 (stCells [st15]) ∧ Below w.heap.size w X) := hX
    refine (made_any _ (xs.take 124) lo 4 X (fun x hx => H.out.2 x (List.mem_of_mem_take hx)) ((HT.out).below hX.2) (fun _ _ _ e => by injection e; omega) (by decide) (by decide) (by omega) (by omega)).mono ?_
    clear hX
    rintro e Wm ⟨mv, rfl, hrow, hbm⟩
    obtain ⟨ma, mc, rfl⟩ := owns_form hrow
    have HM : Hid (StepsV Wm (.slice ma (mkL (xs.take 124) lo 4).length mc) (mkL (xs.take 124) lo 4) ∧ Wm.ownsRow w.heap.size 40 4 (.slice (some ⟨w.heap.size, 0, none⟩) 1 1) 1 (stCells [st15]) ∧ Below w.heap.size w Wm) := ⟨stepsV_own hrow, owns_keep HX.out.1 hbm, HX.out.2.trans (hbm.mono HX.out.2.size)⟩
    have HA : Hid (StepsNew (apL xs lo) w = StepsNew (st15 :: mkL (xs.take 124) lo 4) w) := by show _ = _; rfl
    have hml : (mkL (xs.take 124) lo 4).length ≤ 32 := by have := apL_len xs lo; unfold apL at this; rw [List.length_cons] at this; omega
    clear hrow hbm HX
    obtain ⟨L, hL⟩ : ∃ L, L = (mkL (xs.take 124) lo 4).length := ⟨_, rfl⟩
    have HL : Hid (L = (mkL (xs.take 124) lo 4).length) := hL
    rw [← hL] at HM hml ⊢
    clear hL
    obtain ⟨i0, hi0, hz0, hz1, hz2⟩ := info_parts Try.infoStep
    go_wp2_with (at_builtin; refine stopL ?_)
    refine ⟨?_⟩
    by_cases h0 : L = 0
    · subst h0
      have hnil : mkL (xs.take 124) lo 4 = [] := List.eq_nil_of_length_eq_zero HL.out.symm
      refine wpList_appN (by rfl) _ _ (by rfl) w.heap.size 1 1 _ _ (by decide) (by rfl) (by rfl) ?_
      have HE : Hid (Wm.ownsRow w.heap.size 40 4 (.slice (some ⟨w.heap.size, 0, none⟩) 1 1) (apL xs lo).length (stCells (apL xs lo)) ∧ Below w.heap.size w Wm) := by
        unfold apL
        rw [hnil]
        exact HM.out.2
      clear HM HL HA HT H HN hnil
      go_wp2
      go_ret
      exact ⟨_, rfl, HE.out⟩
    · obtain ⟨sb, so, hsa, hsb, hsl⟩ : ∃ sb so, ma = some ⟨sb, so, none⟩ ∧ sb < Wm.heap.size ∧ StepsAt Wm sb so (mkL (xs.take 124) lo 4) := by
        obtain ⟨ao', cap', e, h1⟩ := HM.out.1
        injection e with e1 e2 e3
        subst e1
        rcases h1 with h1 | ⟨b, off, h1⟩
        · exact absurd (HL.out.trans (by rw [h1]; rfl)) h0
        · exact ⟨b, off, h1⟩
      subst hsa
      have HSt : Hid (StepsAt Wm sb so (mkL (xs.take 124) lo 4)) := hsl
      clear hsl
      refine wpList_append_lies _ (by rfl) _ _ 22 (by rfl) w.heap.size 40 i0 _ 4 32 Try.underlying22 hi0 hz0 hz1 hz2 (by rfl) (by decide) _ _ _ (by rfl) HM.out.2.1 ⟨sb, so, none⟩ L mc (stCells (mkL (xs.take 124) lo 4)) (by rfl) ?_ ?_ ?_ (by omega) ?_ ?_ ?_ _ (by rfl) ?_
      · rw [length_stCells, HL.out]
      · exact fun j u hj => HSt.out.cells j u hj
      · exact stCells_oneCell _
      · unfold maxLen; omega
      · omega
      · exact HM.out.2.2.size
      intro g1 cap1 X2 hown hgrow hat _
      have HE : Hid (X2.ownsRow w.heap.size 40 4 (.slice (some ⟨g1, 0, none⟩) (1 + L) cap1) (apL xs lo).length (stCells (apL xs lo)) ∧ Below w.heap.size w X2) := by
        refine ⟨?_, HM.out.2.2.grown hgrow HM.out.2.2.size (fun k hk => by injection hk with hk; exact Nat.le_of_eq hk)⟩
        have e1 : (apL xs lo).length = 1 + L := by rw [HL.out]; unfold apL; rw [List.length_cons]; omega
        have e2 : stCells (apL xs lo) = stCells [st15] ++ stCells (mkL (xs.take 124) lo 4) := by rw [← stCells_append]; rfl
        rw [e1, e2]
        exact hown
      clear hown hgrow hat HM HL HA HT H HN HSt
      go_wp2
      go_ret
      exact ⟨_, rfl, HE.out⟩
  · have m1 : ¬ (124 : Int) < (n : Int) := by omega
    have HT : Hid (IntsV w (.slice ao n cap) (xs.take 124)) := by
      show IntsV w (.slice ao n cap) (xs.take 124)
      rw [List.take_of_length_le (by have := HN.out; omega)]
      exact H.out.1
    go_wp2_with fail
    refine name_calls (p := fun X => X.ownsRow w.heap.size 40 4 (.slice (some ⟨w.heap.size, 0, none⟩) 1 1) 1 (stCells [st15]) ∧ Below w.heap.size w X) ⟨own15 w, (Below.refl _ _).alloc (Nat.le_refl _) _⟩ ?_
    rintro X hX
    have HX : Hid (X.ownsRow w.heap.size 40 4 (.slice (some ⟨w.heap.size, 0, none⟩) 1 1) 1 (stCells [st15]) ∧ Below w.heap.size w X) := hX
    refine (made_any _ (xs.take 124) lo 4 X (fun x hx => H.out.2 x (List.mem_of_mem_take hx)) ((HT.out).below hX.2) (fun _ _ _ e => by injection e; omega) (by decide) (by decide) (by omega) (by omega)).mono ?_
    clear hX
    rintro e Wm ⟨mv, rfl, hrow, hbm⟩
    obtain ⟨ma, mc, rfl⟩ := owns_form hrow
    have HM : Hid (StepsV Wm (.slice ma (mkL (xs.take 124) lo 4).length mc) (mkL (xs.take 124) lo 4) ∧ Wm.ownsRow w.heap.size 40 4 (.slice (some ⟨w.heap.size, 0, none⟩) 1 1) 1 (stCells [st15]) ∧ Below w.heap.size w Wm) := ⟨stepsV_own hrow, owns_keep HX.out.1 hbm, HX.out.2.trans (hbm.mono HX.out.2.size)⟩
    have HA : Hid (StepsNew (apL xs lo) w = StepsNew (st15 :: mkL (xs.take 124) lo 4) w) := by show _ = _; rfl
    have hml : (mkL (xs.take 124) lo 4).length ≤ 32 := by have := apL_len xs lo; unfold apL at this; rw [List.length_cons] at this; omega
    clear hrow hbm HX
    obtain ⟨L, hL⟩ : ∃ L, L = (mkL (xs.take 124) lo 4).length := ⟨_, rfl⟩
    have HL : Hid (L = (mkL (xs.take 124) lo 4).length) := hL
    rw [← hL] at HM hml ⊢
    clear hL
    obtain ⟨i0, hi0, hz0, hz1, hz2⟩ := info_parts Try.infoStep
    go_wp2_with (at_builtin; refine stopL ?_)
    refine ⟨?_⟩
    by_cases h0 : L = 0
    · subst h0
      have hnil : mkL (xs.take 124) lo 4 = [] := List.eq_nil_of_length_eq_zero HL.out.symm
      refine wpList_appN (by rfl) _ _ (by rfl) w.heap.size 1 1 _ _ (by decide) (by rfl) (by rfl) ?_
      have HE : Hid (Wm.ownsRow w.heap.size 40 4 (.slice (some ⟨w.heap.size, 0, none⟩) 1 1) (apL xs lo).length (stCells (apL xs lo)) ∧ Below w.heap.size w Wm) := by
        unfold apL
        rw [hnil]
        exact HM.out.2
      clear HM HL HA HT H HN hnil
      go_wp2
      go_ret
      exact ⟨_, rfl, HE.out⟩
    · obtain ⟨sb, so, hsa, hsb, hsl⟩ : ∃ sb so, ma = some ⟨sb, so, none⟩ ∧ sb < Wm.heap.size ∧ StepsAt Wm sb so (mkL (xs.take 124) lo 4) := by
        obtain ⟨ao', cap', e, h1⟩ := HM.out.1
        injection e with e1 e2 e3
        subst e1
        rcases h1 with h1 | ⟨b, off, h1⟩
        · exact absurd (HL.out.trans (by rw [h1]; rfl)) h0
        · exact ⟨b, off, h1⟩
      subst hsa
      have HSt : Hid (StepsAt Wm sb so (mkL (xs.take 124) lo 4)) := hsl
      clear hsl
      refine wpList_append_lies _ (by rfl) _ _ 22 (by rfl) w.heap.size 40 i0 _ 4 32 Try.underlying22 hi0 hz0 hz1 hz2 (by rfl) (by decide) _ _ _ (by rfl) HM.out.2.1 ⟨sb, so, none⟩ L mc (stCells (mkL (xs.take 124) lo 4)) (by rfl) ?_ ?_ ?_ (by omega) ?_ ?_ ?_ _ (by rfl) ?_
      · rw [length_stCells, HL.out]
      · exact fun j u hj => HSt.out.cells j u hj
      · exact stCells_oneCell _
      · unfold maxLen; omega
      · omega
      · exact HM.out.2.2.size
      intro g1 cap1 X2 hown hgrow hat _
      have HE : Hid (X2.ownsRow w.heap.size 40 4 (.slice (some ⟨g1, 0, none⟩) (1 + L) cap1) (apL xs lo).length (stCells (apL xs lo)) ∧ Below w.heap.size w X2) := by
        refine ⟨?_, HM.out.2.2.grown hgrow HM.out.2.2.size (fun k hk => by injection hk with hk; exact Nat.le_of_eq hk)⟩
        have e1 : (apL xs lo).length = 1 + L := by rw [HL.out]; unfold apL; rw [List.length_cons]; omega
        have e2 : stCells (apL xs lo) = stCells [st15] ++ stCells (mkL (xs.take 124) lo 4) := by rw [← stCells_append]; rfl
        rw [e1, e2]
        exact hown
      clear hown hgrow hat HM HL HA HT H HN HSt
      go_wp2
      go_ret
      exact ⟨_, rfl, HE.out⟩
end Go.Proofs.Ytlbmcdoldnajoaa
