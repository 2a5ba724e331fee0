import Derived.Test.YtlbmcdoldnajoaaGreatPFunC
set_option maxRecDepth 100000
set_option maxHeartbeats 400000
namespace Go.Proofs.YtlbmcdoldnajoaaGreat
open Go.RowKit
attribute [local go_sem ↓] wStM wStR wLdM wLdR wLdK wStK wLdA wStA wLdG wStG wLdW wStW
theorem still_ld {ops : Array Oper} {op : Oper} {a : Act} {w : World} {K : Act → Prop} {E : Prop} {T : TypeId} {x : Operand} (b o : Nat) {cs : List Value} {d : TypeDesc} (hg : op.guard = none) (ho : op.op = .load T x)
    (hx : a.eval x = .pointer (some ⟨b, o, none⟩)) (hc : w.rangeAt b o cs) (hu : Tryz.prog.underlying T = some d) (hd : d.isRow = true) (hi : (Tryz.prog.info? T).map (·.size) = some cs.length)
    (h : K (a.put op.dst (.agg cs.toArray))) : if Region.wanted op (yielded ops a.tmps) = true then op.still Tryz.prog a w K else E := by
  have hw : Region.wanted op (yielded ops a.tmps) = true := by simp [Region.wanted, hg]
  rw [if_pos hw, Oper.still]
  unfold execOp
  simp only [ho, hx, Instr.loadAt, Instr.sureAddr, Sem.run_bind, Sem.run_pure, Result.andThen_ok, run_loadVar_mid w b o T cs d hc hu hd hi]
  exact ⟨rfl, h⟩
theorem still_bd4 {ops : Array Oper} {op : Oper} {a : Act} {w : World} {K : Act → Prop} {E : Prop} {T : TypeId} {x0 x1 x2 x3 : Operand} {u0 u1 u2 u3 r : Value} (hg : op.guard = none) (ho : op.op = .build T #[(0, x0), (1, x1), (2, x2), (3, x3)]) (h0 : a.eval x0 = u0) (h1 : a.eval x1 = u1) (h2 : a.eval x2 = u2) (h3 : a.eval x3 = u3)
    (hr : (Instr.build T #[(0, u0), (1, u1), (2, u2), (3, u3)]).run Tryz.prog w = .ok r w) (h : K (a.put op.dst r)) : if Region.wanted op (yielded ops a.tmps) = true then op.still Tryz.prog a w K else E := by
  have hw : Region.wanted op (yielded ops a.tmps) = true := by simp [Region.wanted, hg]
  rw [if_pos hw, Oper.still]
  unfold execOp
  simp only [ho, List.map_toArray, List.map_cons, List.map_nil, h0, h1, h2, h3, hr, Sem.run_bind, Sem.run_pure, Result.andThen_ok]
  exact ⟨rfl, h⟩
theorem bd_at16 (tk bg : Nat) (a0 a1 a2 a3 a4 a5 a6 a7 a8 a9 a10 a11 a12 a13 a14 a15 b0 b1 b2 b3 b4 b5 b6 b7 b8 b9 b10 b11 b12 b13 b14 b15 : Bool) (W : World) : (Instr.build 163 #[(0, .int .i64 (tk : Int)), (1, .int .i64 (bg : Int)), (2, .agg (rdCells [a0, a1, a2, a3, a4, a5, a6, a7, a8, a9, a10, a11, a12, a13, a14, a15]).toArray), (3, .agg (rdCells [b0, b1, b2, b3, b4, b5, b6, b7, b8, b9, b10, b11, b12, b13, b14, b15]).toArray)]).run Tryz.prog W = .ok (.agg (atC ⟨tk, bg, [a0, a1, a2, a3, a4, a5, a6, a7, a8, a9, a10, a11, a12, a13, a14, a15], [b0, b1, b2, b3, b4, b5, b6, b7, b8, b9, b10, b11, b12, b13, b14, b15]⟩).toArray) W := by kernel_rfl
theorem bd_at (t : AtM) (ht : t.ok) (W : World) : (Instr.build 163 #[(0, .int .i64 (t.ticket : Int)), (1, .int .i64 (t.beg : Int)), (2, .agg (rdCells t.read).toArray), (3, .agg (rdCells t.wrote).toArray)]).run Tryz.prog W = .ok (.agg (atC t).toArray) W := by
  obtain ⟨tk, bg, r, wr⟩ := t
  obtain ⟨h1, h2⟩ := ht
  match r, h1, wr, h2 with
  | [a0, a1, a2, a3, a4, a5, a6, a7, a8, a9, a10, a11, a12, a13, a14, a15], _, [b0, b1, b2, b3, b4, b5, b6, b7, b8, b9, b10, b11, b12, b13, b14, b15], _ => exact bd_at16 ..
theorem AtBlk.load {w : World} {b : Nat} {a : AtM} (h : AtBlk w b a) (ha : a.ok) : (loadVar 163 ⟨b, 0, none⟩).run Tryz.prog w = .ok (.agg (atC a).toArray) w :=
  run_loadVar_mid w b 0 _ _ _ h.at Tryz.underlying163 rfl (by rw [Tryz.sizeA, atC_len ha])
section
variable {o : Nat → Option Nat} {w : World} {b : Nat} {p : PM} {v : PV}
theorem Tryz.infoTk : (Tryz.prog.info? 125).map (fun i => (i.zero, i.size, i.bytes)) = some (some (.pointer none), 1, 8) := by kernel_rfl
theorem left_take {l : List Nat} {j : Nat} (hj : j < l.length) (n : Nat) : DeskM.left (l.take (j + 1)) n = DeskM.left (l.take j) n ++ if l.getD j 0 ≠ n then [l.getD j 0] else [] := by
  have e : l.getD j 0 = l[j] := by simp [List.getD, hj]
  unfold DeskM.left
  rw [List.take_succ_eq_append_getElem hj, List.filter_append, e]
  congr 1
  by_cases h : l[j] = n <;> simp [h]
theorem left_len (l : List Nat) (n : Nat) : (DeskM.left l n).length ≤ l.length := List.length_filter_le _ _
def Left (ts : List Nat) (l : List Nat) (w : World) (e : Ending) (w' : World) : Prop := ∃ x, e = .returned x ∧ w'.ownsRow w.heap.size 125 1 x l.length (l.map (tkV ts)) ∧ Below w.heap.size w w'
theorem withoutT_any (h : PD o w b p v) {rv : Value} {l : List Nat} (hrow : w.ownsRow 0 125 1 rv l.length (l.map (tkV v.ts))) (hin : ∀ n ∈ l, 1 ≤ n ∧ n ≤ p.tasks.length) (hl : l.length ≤ 1000000000) (n : Nat) :
    Calls Tryz.prog 63 #[rv, .int .i64 (n : Int)] w fun e w' => Left v.ts (DeskM.left l n) w e w' := by
  have H : Hid (PD o w b p v) := h
  have HI : Hid (∀ n ∈ l, 1 ≤ n ∧ n ≤ p.tasks.length) := hin
  obtain ⟨ra, rc, hrv⟩ := owns_form hrow
  subst hrv
  have HRow : Hid (w.ownsRow 0 125 1 (.slice ra l.length rc) l.length (l.map (tkV v.ts))) := hrow
  obtain ⟨i0, hi, hz0, hz1, hz2⟩ := info_parts Tryz.infoTk
  obtain ⟨L, hL⟩ : ∃ L, L = l.length := ⟨_, rfl⟩
  have HLe : Hid (L = l.length) := hL
  rw [← hL] at hl ⊢
  clear h hrow hin hL
  go_enter Tryz.func63, Tryz.ntmps63
  go_wp2
  go_loopw [5, 11] (fun rv i wr => ∃ j : Nat, j ≤ L ∧ i = .int .i64 j ∧ wr.ownsRow w.heap.size 125 1 rv (DeskM.left (l.take j) n).length ((DeskM.left (l.take j) n).map (tkV v.ts)) ∧ Below w.heap.size w wr) (fun _ i _ => L - (intOf i).toNat)
  case atStart => exact ⟨0, Nat.zero_le _, rfl, ⟨rfl, Or.inr ⟨w.heap.size, 0, #[], rfl, Nat.le_refl _, heap_alloc_new _ _, Nat.le_refl _, Nat.zero_le _, rfl, rfl⟩⟩, (Below.refl _ _).alloc (Nat.le_refl _) _⟩
  case round =>
    obtain ⟨j, hj, rfl, hk1, hk2⟩ := hrel
    obtain ⟨fl, hfl⟩ : ∃ fl, fl = DeskM.left (l.take j) n := ⟨_, rfl⟩
    rw [← hfl] at hk1
    have HFL : Hid (fl = DeskM.left (l.take j) n) := hfl
    have hfll : fl.length ≤ j := by
      have h1 := left_len (l.take j) n
      have h2 : (l.take j).length ≤ j := by simp; omega
      rw [hfl]; omega
    have HR : Hid (wr.ownsRow w.heap.size 125 1 u5 fl.length (fl.map (tkV v.ts)) ∧ Below w.heap.size w wr) := ⟨hk1, hk2⟩
    clear hk1 hk2 hfl
    by_cases hlt' : j < L
    · have hjl : j < l.length := by rw [← HLe.out]; exact hlt'
      have m4 : (j : Int) < (L : Int) := by omega
      have m0 : (0 : Int) ≤ (j : Int) := by omega
      obtain ⟨g, hv1⟩ : ∃ g, ra = some ⟨g, 0, none⟩ := by
        obtain ⟨g, cap, hv, _, _⟩ := owns_pos HRow.out (by omega)
        injection hv with hv1
        exact ⟨g, hv1⟩
      subst hv1
      have cp0 := tk_row HRow.out hjl
      have hg : g < w.heap.size := (owns_lt HRow.out rfl).2
      have HFS : Hid (DeskM.left (l.take (j + 1)) n = fl ++ if l.getD j 0 ≠ n then [l.getD j 0] else []) := by show _ = _; rw [left_take hjl, HFL.out]
      obtain ⟨un, hun⟩ : ∃ un, un = l.getD j 0 := ⟨_, rfl⟩
      have hmem : un ∈ l := by rw [hun]; simp [List.getD, hjl]
      obtain ⟨u1, u2⟩ := HI.out un hmem
      rw [← hun] at cp0 HFS
      have ct0 : w.cell? ⟨v.ts.getD (un - 1) 0, 0, none⟩ = some (.int .i64 (un : Int)) := by
        have := H.out.cTk (i := un - 1) (by omega) 0
        rw [this]
        show some (natV (un - 1 + 1)) = _
        rw [show un - 1 + 1 = un by omega]
        rfl
      have htb : v.ts.getD (un - 1) 0 < w.heap.size := blk_lt (H.out.task (i := un - 1) (by omega))
      have HTK : Hid (tkV v.ts un = .pointer (some ⟨v.ts.getD (un - 1) 0, 0, none⟩)) := rfl
      rw [HTK.out] at cp0
      generalize v.ts.getD (un - 1) 0 = tb at cp0 ct0 htb HTK
      have cp := (HR.out.2.cell (p := ⟨g, j, none⟩) hg).trans cp0
      have ct := (HR.out.2.cell (p := ⟨tb, 0, none⟩) htb).trans ct0
      clear hun cp0 ct0
      by_cases hx : un = n
      · have m5 : (un : Int) = (n : Int) := by omega
        rw [m5] at ct
        go_wp2
        go_roundw
        case rel => exact ⟨j + 1, by omega, by go_num, by rw [HFS.out, if_neg (fun h => h hx), List.append_nil]; exact HR.out.1, HR.out.2⟩
        case measure => simp [intOf]; omega
      · have m5 : ¬ (un : Int) = (n : Int) := by omega
        have hs := HR.out.2.size
        go_wp2_with (at_builtin; refine wpList_append_lies _ (by rfl) _ _ 75 (by rfl) w.heap.size 125 i0 _ 1 8 Tryz.underlying75 hi hz0 hz1 hz2 (by rfl) (by decide) _ _ _ (by rfl) (HR.out.1.alloc _) ⟨wr.heap.size, 0, none⟩ 1 1 [.pointer (some ⟨tb, 0, none⟩)] (by rfl) (by rfl) ?_ ?_ (by decide) ?_ ?_ ?_ _ (by rfl) ?_)
        · exact World.news_of_block (heap_alloc_new _ _)
        · intro u hu; simp at hu; subst hu; rfl
        · unfold maxLen; omega
        · omega
        · simp; omega
        · intro g1 cap1 w2 hown2 hgrow2 hat hlt2
          have HO2 : Hid (w2.ownsRow w.heap.size 125 1 (.slice (some ⟨g1, 0, none⟩) (fl.length + 1) cap1) (DeskM.left (l.take (j + 1)) n).length ((DeskM.left (l.take (j + 1)) n).map (tkV v.ts))) := by
            rw [HFS.out, if_pos hx, List.length_append, List.map_append, List.map_cons, HTK.out]
            exact hown2
          have HB2 : Hid (Below w.heap.size w w2) := (HR.out.2.alloc hs _).grown hgrow2 (by simp; omega) (fun k hk => owns_ge HR.out.1 hk)
          clear hown2 hgrow2 hat hlt2
          go_wp2
          go_roundw
          case rel => exact ⟨j + 1, by omega, by go_num, HO2.out, HB2.out⟩
          case measure => simp [intOf]; omega
    · obtain rfl : j = L := by omega
      have HZ : Hid (fl = DeskM.left l n) := by show _ = _; rw [HFL.out, HLe.out, List.take_length]
      have HY : Hid (Left v.ts (DeskM.left l n) w (.returned u5) wr) := ⟨u5, rfl, by rw [← HZ.out]; exact HR.out.1, HR.out.2⟩
      go_wp2
      go_ret
      exact HY.out
theorem end_task (tb : Nat) (c : Array Value) (st : Int) (hb : w.heap[tb]? = some (.cells c 128 (0, 0))) (hc : c.size = 6) :
    Calls Tryz.prog 62 #[ptrV tb, .int .i64 st] w fun e w' => e = .returned (.tuple #[]) ∧ w' = (w.setCell ⟨tb, 1, none⟩ (.int .i64 st)).setCell ⟨tb, 4, none⟩ nilV := by
  obtain ⟨x1, c1⟩ : ∃ x, w.cell? ⟨tb, 1, none⟩ = some x := ⟨c[1], by rw [blk_cell hb]; simp [hc]⟩
  obtain ⟨x4, c4⟩ : ∃ x, w.cell? ⟨tb, 4, none⟩ = some x := ⟨c[4], by rw [blk_cell hb]; simp [hc]⟩
  have f1 : ∀ i, w.frozen? ⟨tb, i, none⟩ = false := fun i => blk_free hb
  unfold ptrV nilV
  clear hb hc
  go_enter Tryz.func62, Tryz.ntmps62
  go_wp2
  go_end0
  exact ⟨rfl, rfl⟩
theorem PM.attempt_ok (h : PD o w b p v) {i : Nat} (hi : i < p.workers.length) : (p.attempt i).ok := ⟨(h.wkOk hi).2, by
  show (if (p.wk i).st = 3 then DeskM.wroteL (p.wk i).x.puts else List.replicate 16 false).length = 16
  split <;> simp [DeskM.wroteL]⟩
theorem attempt_any (h : PD o w b p v) {i : Nat} (hi : i < p.workers.length) (ht : (p.wk i).ticket ≠ 0) (ht2 : (p.wk i).ticket ≤ p.tasks.length) :
    Calls Tryz.prog 101 #[.pointer (some ⟨v.wb, i * 74, none⟩)] w fun e w' => e = .returned (.agg (atC (p.attempt i)).toArray) ∧ Below w.heap.size w w' := by
  have H : Hid (PD o w b p v) := h
  have hok := PM.attempt_ok h hi
  obtain ⟨t, hte⟩ : ∃ t, t = p.attempt i := ⟨_, rfl⟩
  have HT : Hid (t.read = (p.wk i).x.read ∧ t.wrote = wroteB (p.wk i).st (p.wk i).x ∧ t.ticket = (p.wk i).ticket ∧ t.beg = (p.wk i).beg) := by rw [hte]; exact ⟨rfl, rfl, rfl, rfl⟩
  rw [← hte] at hok ⊢
  have HE : Hid (∀ W, Below w.heap.size w W → Eng (fun _ => True) W (wkSpot p v i) (v.rt.getD i nilV) (p.wk i).st (p.wk i).x (see (p.wk i).m (p.wk i).x.puts)) := fun W hW => (h.below hW).eng hi trivial (fun _ _ => trivial)
  clear h hte
  go_enter Tryz.func101, Tryz.ntmps101
  go_wp2_with fail
  refine name_calls (p := fun X => (∃ c, c.size = 34 ∧ X.heap[w.heap.size]? = some (.cells c 163 (0, 0))) ∧ Below w.heap.size w X) ⟨⟨_, rfl, heap_alloc_new _ _⟩, (Below.refl _ _).alloc (Nat.le_refl _) _⟩ ?_
  rintro X0 ⟨hX0, hB0⟩
  have HX0 : Hid ((∃ c, c.size = 34 ∧ X0.heap[w.heap.size]? = some (.cells c 163 (0, 0))) ∧ Below w.heap.size w X0) := ⟨hX0, hB0⟩
  clear hX0 hB0
  refine (read_any _ X0 (wkSpot p v i) _ _ _ _ (HE.out X0 HX0.out.2)).mono ?_
  rintro e W1 ⟨rfl, hb1⟩
  rw [← HT.out.1]
  have HW1 : Hid ((∃ c, c.size = 34 ∧ W1.heap[w.heap.size]? = some (.cells c 163 (0, 0))) ∧ Below w.heap.size w W1) := by
    obtain ⟨c, h1, h2⟩ := HX0.out.1
    exact ⟨⟨c, h1, (hb1.block _ (blk_lt h2)).trans h2⟩, HX0.out.2.trans (hb1.mono HX0.out.2.size)⟩
  clear hb1
  obtain ⟨cr, hcr⟩ : ∃ cr, cr = (rdCells t.read).toArray := ⟨_, rfl⟩
  have HCR : Hid (cr = (rdCells t.read).toArray) := hcr
  rw [← hcr]
  clear hcr
  go_wp2
  refine wp_stN (T := 103) W1.heap.size (by rfl) (by rfl) (by rfl) (by exact heap_alloc_new _ _) (by rw [HCR.out, Tryz.sizeK]; simp [length_rdCells, hok.1]) (by rw [HCR.out]; simp [length_rdCells, hok.1]) (by rw [HCR.out]; exact rdCells_one _) ?_
  rintro W2 hW2 hF2
  have HW2 : Hid (SetBlk W2 W1.heap.size t.read ∧ (∃ c, c.size = 34 ∧ W2.heap[w.heap.size]? = some (.cells c 163 (0, 0))) ∧ Below w.heap.size w W2 ∧ w.heap.size < W1.heap.size) := by
    obtain ⟨c, h1, h2⟩ := HW1.out.1
    have hl := blk_lt h2
    refine ⟨by rw [HCR.out] at hW2; exact hW2, ⟨c, h1, hF2.blk ((Below.heap_alloc _ _ _ hl).trans h2) (by omega)⟩, HW1.out.2.trans (((Below.refl _ W1).alloc (by omega) _).trans (hF2.below (by omega) (by simp; omega))), hl⟩
  clear hW2 hF2
  go_wp2_with fail
  refine (wrote_any _ W2 (wkSpot p v i) _ _ _ _ (HE.out W2 HW2.out.2.2.1)).mono ?_
  rintro e W3 ⟨rfl, hb3⟩
  rw [← HT.out.2.1]
  have HW3 : Hid (SetBlk W3 W1.heap.size t.read ∧ (∃ c, c.size = 34 ∧ W3.heap[w.heap.size]? = some (.cells c 163 (0, 0))) ∧ Below w.heap.size w W3 ∧ w.heap.size < W1.heap.size ∧ W1.heap.size < W3.heap.size) := by
    obtain ⟨c, h1, h2⟩ := HW2.out.2.1
    have hl := blk_lt HW2.out.1
    have := hb3.size
    exact ⟨(hb3.block _ hl).trans HW2.out.1, ⟨c, h1, (hb3.block _ (blk_lt h2)).trans h2⟩, HW2.out.2.2.1.trans (hb3.mono HW2.out.2.2.1.size), HW2.out.2.2.2, by omega⟩
  clear hb3
  obtain ⟨cw, hcw⟩ : ∃ cw, cw = (rdCells t.wrote).toArray := ⟨_, rfl⟩
  have HCW : Hid (cw = (rdCells t.wrote).toArray) := hcw
  rw [← hcw]
  clear hcw
  go_wp2
  refine wp_stN (T := 103) W3.heap.size (by rfl) (by rfl) (by rfl) (by exact heap_alloc_new _ _) (by rw [HCW.out, Tryz.sizeK]; simp [length_rdCells, hok.2]) (by rw [HCW.out]; simp [length_rdCells, hok.2]) (by rw [HCW.out]; exact rdCells_one _) ?_
  rintro W4 hW4 hF4
  have HW4 : Hid (SetBlk W4 W1.heap.size t.read ∧ SetBlk W4 W3.heap.size t.wrote ∧ (∃ c, c.size = 34 ∧ W4.heap[w.heap.size]? = some (.cells c 163 (0, 0))) ∧ Below w.heap.size w W4) := by
    obtain ⟨c, h1, h2⟩ := HW3.out.2.1
    have hl := blk_lt h2
    have := HW3.out.2.2.2.2
    refine ⟨hF4.blk ((Below.heap_alloc _ _ _ this).trans HW3.out.1) (by omega), by rw [HCW.out] at hW4; exact hW4, ⟨c, h1, hF4.blk ((Below.heap_alloc _ _ _ hl).trans h2) (by omega)⟩, HW3.out.2.2.1.trans (((Below.refl _ W3).alloc (by omega) _).trans (hF4.below (by omega) (by simp; omega)))⟩
  clear hW4 hF4
  have hP4 := H.out.below HW4.out.2.2.2
  have c1 : W4.cell? ⟨v.wb, i * 74, none⟩ = some (.pointer (some ⟨v.ts.getD ((p.wk i).ticket - 1) 0, 0, none⟩)) := by rw [hP4.cWkT hi, tkO, if_neg ht]; rfl
  have c2 : W4.cell? ⟨v.wb, i * 74 + 1, none⟩ = some (.int .i64 (t.beg : Int)) := by rw [HT.out.2.2.2]; exact hP4.cWkB hi
  have c3 : W4.cell? ⟨v.ts.getD ((p.wk i).ticket - 1) 0, 0, none⟩ = some (.int .i64 (t.ticket : Int)) := by
    have := hP4.cTk (i := (p.wk i).ticket - 1) (by omega) 0
    rw [this, HT.out.2.2.1]
    show some (natV ((p.wk i).ticket - 1 + 1)) = _
    rw [show (p.wk i).ticket - 1 + 1 = (p.wk i).ticket by omega]
    rfl
  generalize v.ts.getD ((p.wk i).ticket - 1) 0 = tb at c1 c3
  clear hP4
  go_wp2
  refine wp_tail 14 (by kernel_rfl) ?_
  simp only [List.take_succ_cons, List.take_zero, List.drop_succ_cons, List.drop_zero]
  iterate 11 still_step
  refine wpStill_step (fun K hK => still_ld (T := 103) W1.heap.size 0 (by rfl) (by rfl) (by rfl) (by exact HW4.out.1.at) (by exact Tryz.underlying103) (by rfl) (by rw [Tryz.sizeK, length_rdCells, hok.1]) (hK _ ?_))
  refine wpStill_step (fun K hK => still_ld (T := 103) W3.heap.size 0 (by rfl) (by rfl) (by rfl) (by exact HW4.out.2.1.at) (by exact Tryz.underlying103) (by rfl) (by rw [Tryz.sizeK, length_rdCells, hok.2]) (hK _ ?_))
  refine wpStill_step (fun K hK => still_bd4 (T := 163) (by rfl) (by rfl) (by rfl) (by rfl) (by rfl) (by rfl) (by exact bd_at t hok _) (hK _ ?_))
  refine wpStill_nil ?_
  obtain ⟨ct, hct⟩ : ∃ ct, ct = (atC t).toArray := ⟨_, rfl⟩
  have HCT : Hid (ct = (atC t).toArray) := hct
  rw [← hct]
  clear hct
  go_wp2
  obtain ⟨c, hc1, hc2⟩ := HW4.out.2.2.1
  refine wp_stN (T := 163) w.heap.size (by rfl) (by rfl) (by rfl) (by exact hc2) (by rw [HCT.out, Tryz.sizeA]; simp [atC_len hok]) (by rw [HCT.out, hc1]; simp [atC_len hok]) (by rw [HCT.out]; exact atC_one _) ?_
  rintro W5 hW5 hF5
  have HW5 : Hid (AtBlk W5 w.heap.size t ∧ Below w.heap.size w W5) := ⟨by rw [HCT.out] at hW5; exact hW5, (HW4.out.2.2.2.drew).trans (hF5.below (by omega) (by have := blk_lt hc2; exact Nat.le_of_lt this))⟩
  clear hW5 hF5 hc2
  go_wp2
  exact bodyPost_ret (results_cell1 (by rfl) (by rfl) (HW5.out.1.load hok)) rfl ⟨rfl, HW5.out.2⟩
end
end Go.Proofs.YtlbmcdoldnajoaaGreat
