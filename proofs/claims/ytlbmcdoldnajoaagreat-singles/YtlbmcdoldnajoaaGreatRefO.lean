import Derived.Test.YtlbmcdoldnajoaaGreatRefC
set_option maxRecDepth 100000
set_option maxHeartbeats 400000
namespace Go.Proofs.YtlbmcdoldnajoaaGreat
open Go.RowKit
theorem revfind_some {p : Nat → Bool} {q : Nat} (hp : p q = true) : ∀ G, q < G → (∀ r, q < r → r < G → p r = false) → (List.range G).reverse.find? p = some q
  | 0, h, _ => absurd h (Nat.not_lt_zero _)
  | G + 1, h, hf => by
    rw [List.range_succ, List.reverse_append]
    show List.find? p (G :: (List.range G).reverse) = some q
    by_cases e : q = G
    · subst e; rw [List.find?_cons_of_pos hp]
    · rw [List.find?_cons_of_neg (by rw [hf G (by omega) (by omega)]; decide)]
      exact revfind_some hp G (by omega) (fun r h1 h2 => hf r h1 (by omega))
theorem revfind_none {p : Nat → Bool} : ∀ G, (∀ r, r < G → p r = false) → (List.range G).reverse.find? p = none
  | 0, _ => rfl
  | G + 1, hf => by
    rw [List.range_succ, List.reverse_append]
    show List.find? p (G :: (List.range G).reverse) = none
    rw [List.find?_cons_of_neg (by rw [hf G (by omega)]; decide)]
    exact revfind_none G (fun r h => hf r (by omega))
theorem fwdfind_none {p : Nat → Bool} {G : Nat} (hf : ∀ r, r < G → p r = false) : (List.range G).find? p = none := by
  rw [List.find?_eq_none]
  intro r hr
  rw [hf r (List.mem_range.1 hr)]
  decide
theorem fwdfind_some {p : Nat → Bool} {q : Nat} (hp : p q = true) : ∀ G, q < G → (∀ r, r < q → p r = false) → (List.range G).find? p = some q
  | 0, h, _ => absurd h (Nat.not_lt_zero _)
  | G + 1, h, hf => by
    rw [List.range_succ, List.find?_append]
    by_cases e : q = G
    · subst e
      rw [fwdfind_none hf]
      simp [hp]
    · rw [fwdfind_some hp G (by omega) hf]; rfl
theorem any_none {p : Nat → Bool} {G : Nat} (hf : ∀ r, r < G → p r = false) : (List.range G).any p = false := by
  rw [List.any_eq_false]
  intro r hr
  rw [hf r (List.mem_range.1 hr)]
  decide
theorem any_some {p : Nat → Bool} {G q : Nat} (hq : q < G) (hp : p q = true) : (List.range G).any p = true := List.any_eq_true.2 ⟨q, List.mem_range.2 hq, hp⟩
structure GoodsAt (w : World) (g : Nat) (d : DeskM) (v : RV) : Prop where
  gl : g < w.heap.size
  tick : ∀ q, q < d.goods.length → w.cell? ⟨g, q * 5, none⟩ = some (natV (d.goods.getD q good0).ticket)
  beg : ∀ q, q < d.goods.length → w.cell? ⟨g, q * 5 + 1, none⟩ = some (natV (d.goods.getD q good0).beg)
  rd : ∀ q, q < d.goods.length → w.cell? ⟨g, q * 5 + 2, none⟩ = some (v.gs.getD q gv0).rv
  wr : ∀ q, q < d.goods.length → w.cell? ⟨g, q * 5 + 3, none⟩ = some (v.gs.getD q gv0).wv
  pt : ∀ q, q < d.goods.length → w.cell? ⟨g, q * 5 + 4, none⟩ = some (v.gs.getD q gv0).pv
  rdB : ∀ q, q < d.goods.length → BoolsV w (v.gs.getD q gv0).rv (d.goods.getD q good0).read
  wrB : ∀ q, q < d.goods.length → BoolsV w (v.gs.getD q gv0).wv (DeskM.wroteL (d.goods.getD q good0).puts)
theorem RD.goodsAt {F : Nat → Prop} {w : World} {rb : Nat} {d : DeskM} {v : RV} (h : RD F w rb d v) (h0 : 0 < d.goods.length) : ∃ g cap, v.gv = .slice (some ⟨g, 0, none⟩) d.goods.length cap ∧ GoodsAt w g d v := by
  obtain ⟨g, cap, hv, hgl, hc⟩ := owns_pos h.goods h0
  have hcell : ∀ q, q < d.goods.length → ∀ k, k < 5 → w.cell? ⟨g, q * 5 + k, none⟩ = (goodC (d.goods.getD q good0) (v.gs.getD q gv0))[k]? := fun q hq k hk => by
    rw [hc (q * 5 + k) (by omega), goodCells_at h.gl hq hk]
  exact ⟨g, cap, hv, hgl, fun q hq => (hcell q hq 0 (by decide)).trans rfl, fun q hq => (hcell q hq 1 (by decide)).trans rfl, fun q hq => (hcell q hq 2 (by decide)).trans rfl, fun q hq => (hcell q hq 3 (by decide)).trans rfl, fun q hq => (hcell q hq 4 (by decide)).trans rfl,
    fun q hq => (h.gb q hq).1, fun q hq => (h.gb q hq).2.1⟩
def lookV (t : GoodM) (rv wv pv : Value) : Value := .agg #[natV t.ticket, natV t.beg, rv, wv, pv]
def clashP (d : DeskM) (t : GoodM) (u : Nat) : Bool := decide (t.beg ≤ u) && DeskM.share (DeskM.wroteL (d.goods.getD u good0).puts) (DeskM.wroteL t.puts)
theorem clash_eq (d : DeskM) (t : GoodM) : d.clash t = ((List.range d.goods.length).reverse.find? (clashP d t)).elim 0 (· + 1) := rfl
theorem clash_hit {d : DeskM} {t : GoodM} {q : Nat} (hq : q < d.goods.length) (hp : clashP d t q = true) (hf : ∀ r, q < r → r < d.goods.length → clashP d t r = false) : d.clash t = q + 1 := by rw [clash_eq, revfind_some hp _ hq hf]; rfl
theorem clash_none {d : DeskM} {t : GoodM} (hf : ∀ r, r < d.goods.length → clashP d t r = false) : d.clash t = 0 := by rw [clash_eq, revfind_none _ hf]; rfl
theorem refClash_any (F : Nat → Prop) (w : World) (rb : Nat) (d : DeskM) (v : RV) (t : GoodM) (rv wv pv : Value) (h : RD F w rb d v) (hn : d.goods.length ≤ 1000000000) (htb : t.beg ≤ d.goods.length) (hw : BoolsV w wv (DeskM.wroteL t.puts)) :
    Calls Tryz.prog 106 #[ptrV rb, lookV t rv wv pv] w fun e w' => e = .returned (natV (d.clash t)) ∧ Below w.heap.size w w' := by
  have H : Hid (RD F w rb d v) := h
  have HW : Hid (BoolsV w wv (DeskM.wroteL t.puts)) := hw
  obtain ⟨G, hG⟩ : ∃ G, G = d.goods.length := ⟨_, rfl⟩
  have HG : Hid (G = d.goods.length) := hG
  obtain ⟨ga, gc, hgv⟩ := owns_form h.goods
  have c8 : w.cell? ⟨rb, 8, none⟩ = some (.slice ga G gc) := by rw [blk_cell h.blk, hG, ← hgv]; rfl
  have HGV : Hid (v.gv = .slice ga G gc) := by rw [hG]; exact hgv
  have hrb := blk_lt h.blk
  rw [← hG] at hn htb
  obtain ⟨tt, tbg, trd, tpu⟩ := t
  simp only at htb
  unfold lookV ptrV natV
  simp only
  clear h hw hG hgv
  go_enter Tryz.func106, Tryz.ntmps106
  go_wp2
  refine name_wp (p := fun X => Below w.heap.size w X ∧ X.heap[w.heap.size]? = some (.cells #[.int .i64 (tt : Int), .int .i64 (tbg : Int), rv, wv, pv] 156 (0, 0))) ⟨(Below.refl _ _).alloc (Nat.le_refl _) _, heap_alloc_new _ _⟩ ?_
  rintro X ⟨k1, k2⟩
  have HX : Hid (Below w.heap.size w X ∧ X.heap[w.heap.size]? = some (.cells #[.int .i64 (tt : Int), .int .i64 (tbg : Int), rv, wv, pv] 156 (0, 0))) := ⟨k1, k2⟩
  clear k1 k2
  go_loopw [5] (fun u wr => ∃ k : Nat, k ≤ G ∧ u = .int .i64 k ∧ (∀ r, k ≤ r → r < G → clashP d ⟨tt, tbg, trd, tpu⟩ r = false) ∧ Below X.heap.size X wr) (fun u _ => (intOf u).toNat)
  case atStart => exact ⟨G, Nat.le_refl _, rfl, fun r h1 h2 => by omega, Below.refl _ _⟩
  case round =>
    obtain ⟨k, hk, rfl, hno, hbel⟩ := hrel
    have HNo : Hid (∀ r, k ≤ r → r < G → clashP d ⟨tt, tbg, trd, tpu⟩ r = false) := hno
    have hX := hbel.block _ (blk_lt HX.out.2)
    have hX2 := hX.trans HX.out.2
    have b1 : wr.cell? ⟨w.heap.size, 1, none⟩ = some (.int .i64 (tbg : Int)) := by rw [blk_cell hX2]; rfl
    have b3 : wr.cell? ⟨w.heap.size, 3, none⟩ = some wv := by rw [blk_cell hX2]; rfl
    have HB : Hid (Below w.heap.size w wr) := HX.out.1.trans (hbel.mono HX.out.1.size)
    have HBX : Hid (Below X.heap.size X wr) := hbel
    have d8 := (HB.out.cell (p := ⟨rb, 8, none⟩) hrb).trans c8
    clear hno hbel hX hX2
    by_cases hlt : tbg < k
    · obtain ⟨q, rfl⟩ : ∃ q, k = q + 1 := ⟨k - 1, by omega⟩
      have hql : q < d.goods.length := by have := HG.out; omega
      obtain ⟨g, cap, hv, hga⟩ := (H.out.below HB.out).goodsAt (by omega)
      rw [HGV.out] at hv
      injection hv with h1 h2 h3
      subst h1 h3
      have cw := hga.wr q hql
      have HA : Hid (∀ n, BoolsV (wr.drewN n) (v.gs.getD q gv0).wv (DeskM.wroteL (d.goods.getD q good0).puts)) := fun n => owns_keep (hga.wrB q hql) (below_drewN (Below.refl _ _) n)
      have HB2 : Hid (∀ n, BoolsV (wr.drewN n) wv (DeskM.wroteL tpu)) := fun n => owns_keep (owns_keep HW.out HB.out) (below_drewN (Below.refl _ _) n)
      have HCl : Hid (clashP d ⟨tt, tbg, trd, tpu⟩ q = DeskM.share (DeskM.wroteL (d.goods.getD q good0).puts) (DeskM.wroteL tpu)) := by
        show _ = _
        unfold clashP
        rw [decide_eq_true (show tbg ≤ q by omega), Bool.true_and]
      generalize (v.gs.getD q gv0).wv = gw at cw HA
      generalize DeskM.wroteL (d.goods.getD q good0).puts = gl at HA HCl
      have m1 : (tbg : Int) < ((q + 1 : Nat) : Int) := by omega
      have m2 : (q : Int) < (G : Int) := by omega
      have hwq : IntKind.i64.wrap (((q + 1 : Nat) : Int) - 1) = (q : Int) := by rw [IntKind.wrap_i64]; omega
      clear h2 hga
      go_wp2
      go_quiet ((go_at_call 119; exact Calls.quiet_of_same (refShare_any _ _ _ gl (DeskM.wroteL tpu) (HA.out _) (HB2.out _))))
      cases hsh : DeskM.share gl (DeskM.wroteL tpu)
      · go_wp2
        go_roundw
        case rel =>
          refine ⟨q, by omega, rfl, fun r h1 h2 => ?_, below_drewN HBX.out _⟩
          by_cases e : r = q
          · subst e; rw [HCl.out]; exact hsh
          · exact HNo.out r (by omega) h2
        case measure => simp [intOf]
      · have HF1 : Hid (d.clash ⟨tt, tbg, trd, tpu⟩ = q + 1) := clash_hit hql (by rw [HCl.out]; exact hsh) (fun r h1 h2 => HNo.out r (by omega) (by rw [HG.out]; exact h2))
        go_wp2
        go_ret
        exact ⟨by rw [HF1.out]; rfl, below_drewN HB.out _⟩
    · have m1 : ¬ ((tbg : Int) < (k : Int)) := by omega
      have HF1 : Hid (d.clash ⟨tt, tbg, trd, tpu⟩ = 0) := clash_none (fun r hr => by
        by_cases e : k ≤ r
        · exact HNo.out r e (by rw [HG.out]; exact hr)
        · unfold clashP
          rw [decide_eq_false (show ¬ tbg ≤ r by omega), Bool.false_and])
      go_wp2
      go_ret
      exact ⟨by rw [HF1.out]; rfl, HB.out⟩
def pivotP (d : DeskM) (t : GoodM) (v : Nat) : Bool :=
  decide (t.beg ≤ v) && DeskM.share (DeskM.wroteL (d.goods.getD v good0).puts) t.read && (List.range d.goods.length).any fun u => decide (v ≤ u) && DeskM.share (d.goods.getD u good0).read (DeskM.wroteL t.puts)
theorem pivot_eq (d : DeskM) (t : GoodM) : d.pivot t = ((List.range d.goods.length).find? (pivotP d t)).elim 0 (· + 1) := rfl
theorem pivot_hit {d : DeskM} {t : GoodM} {q : Nat} (hq : q < d.goods.length) (hp : pivotP d t q = true) (hf : ∀ r, r < q → pivotP d t r = false) : d.pivot t = q + 1 := by rw [pivot_eq, fwdfind_some hp _ hq hf]; rfl
theorem pivot_none {d : DeskM} {t : GoodM} (hf : ∀ r, r < d.goods.length → pivotP d t r = false) : d.pivot t = 0 := by rw [pivot_eq, fwdfind_none hf]; rfl
theorem refPivot_any (F : Nat → Prop) (w : World) (rb : Nat) (d : DeskM) (v : RV) (t : GoodM) (rv wv pv : Value) (h : RD F w rb d v) (hn : d.goods.length ≤ 1000000000) (htb : t.beg ≤ d.goods.length) (hr : BoolsV w rv t.read) (hw : BoolsV w wv (DeskM.wroteL t.puts)) :
    Calls Tryz.prog 107 #[ptrV rb, lookV t rv wv pv] w fun e w' => e = .returned (natV (d.pivot t)) ∧ Below w.heap.size w w' := by
  have H : Hid (RD F w rb d v) := h
  have HW : Hid (BoolsV w wv (DeskM.wroteL t.puts)) := hw
  have HRd : Hid (BoolsV w rv t.read) := hr
  obtain ⟨G, hG⟩ : ∃ G, G = d.goods.length := ⟨_, rfl⟩
  have HG : Hid (G = d.goods.length) := hG
  obtain ⟨ga, gc, hgv⟩ := owns_form h.goods
  have c8 : w.cell? ⟨rb, 8, none⟩ = some (.slice ga G gc) := by rw [blk_cell h.blk, hG, ← hgv]; rfl
  have HGV : Hid (v.gv = .slice ga G gc) := by rw [hG]; exact hgv
  have hrb := blk_lt h.blk
  rw [← hG] at hn htb
  obtain ⟨tt, tbg, trd, tpu⟩ := t
  simp only at htb HRd
  have hwb : IntKind.i64.wrap ((tbg : Int) + 1) = (tbg : Int) + 1 := by rw [IntKind.wrap_i64]; omega
  unfold lookV ptrV natV
  simp only
  clear h hw hr hG hgv
  go_enter Tryz.func107, Tryz.ntmps107
  go_wp2
  refine name_wp (p := fun X => Below w.heap.size w X ∧ X.heap[w.heap.size]? = some (.cells #[.int .i64 (tt : Int), .int .i64 (tbg : Int), rv, wv, pv] 156 (0, 0))) ⟨(Below.refl _ _).alloc (Nat.le_refl _) _, heap_alloc_new _ _⟩ ?_
  rintro X ⟨k1, k2⟩
  have HX : Hid (Below w.heap.size w X ∧ X.heap[w.heap.size]? = some (.cells #[.int .i64 (tt : Int), .int .i64 (tbg : Int), rv, wv, pv] 156 (0, 0))) := ⟨k1, k2⟩
  clear k1 k2
  go_loopw [5] (fun u wr => ∃ k : Nat, tbg ≤ k ∧ k ≤ G ∧ u = .int .i64 ((k : Int) + 1) ∧ (∀ r, r < k → pivotP d ⟨tt, tbg, trd, tpu⟩ r = false) ∧ Below X.heap.size X wr) (fun u _ => G + 1 - (intOf u).toNat)
  case atStart => exact ⟨tbg, Nat.le_refl _, htb, rfl, fun r hr => by unfold pivotP; rw [decide_eq_false (by show ¬ tbg ≤ r; omega), Bool.false_and, Bool.false_and], Below.refl _ _⟩
  case round =>
    obtain ⟨k, hk0, hk, rfl, hno, hbel⟩ := hrel
    have HNo : Hid (∀ r, r < k → pivotP d ⟨tt, tbg, trd, tpu⟩ r = false) := hno
    have hX2 := (hbel.block _ (blk_lt HX.out.2)).trans HX.out.2
    have b2 : wr.cell? ⟨w.heap.size, 2, none⟩ = some rv := by rw [blk_cell hX2]; rfl
    have b3 : wr.cell? ⟨w.heap.size, 3, none⟩ = some wv := by rw [blk_cell hX2]; rfl
    have HB : Hid (Below w.heap.size w wr) := HX.out.1.trans (hbel.mono HX.out.1.size)
    have HBX : Hid (Below X.heap.size X wr) := hbel
    have d8 := (HB.out.cell (p := ⟨rb, 8, none⟩) hrb).trans c8
    clear hno hbel hX2
    have hwk : IntKind.i64.wrap ((k : Int) + 1 + 1) = (k : Int) + 1 + 1 := by rw [IntKind.wrap_i64]; omega
    have hwq : IntKind.i64.wrap ((k : Int) + 1 - 1) = (k : Int) := by rw [IntKind.wrap_i64]; omega
    by_cases hlt : k < G
    · have hql : k < d.goods.length := by have := HG.out; omega
      obtain ⟨g, cap, hv, hga⟩ := (H.out.below HB.out).goodsAt (by omega)
      rw [HGV.out] at hv
      injection hv with h1 h2 h3
      subst h1 h3
      have cw := hga.wr k hql
      have HA : Hid (∀ n, BoolsV (wr.drewN n) (v.gs.getD k gv0).wv (DeskM.wroteL (d.goods.getD k good0).puts)) := fun n => owns_keep (hga.wrB k hql) (below_drewN (Below.refl _ _) n)
      have HB2 : Hid (∀ n, BoolsV (wr.drewN n) rv trd) := fun n => owns_keep (owns_keep HRd.out HB.out) (below_drewN (Below.refl _ _) n)
      have HCl : Hid (pivotP d ⟨tt, tbg, trd, tpu⟩ k = (DeskM.share (DeskM.wroteL (d.goods.getD k good0).puts) trd && (List.range d.goods.length).any fun u => decide (k ≤ u) && DeskM.share (d.goods.getD u good0).read (DeskM.wroteL tpu))) := by
        show _ = _
        unfold pivotP
        rw [decide_eq_true (show tbg ≤ k by omega), Bool.true_and]
      generalize (v.gs.getD k gv0).wv = gw at cw HA
      generalize DeskM.wroteL (d.goods.getD k good0).puts = gl at HA HCl
      have m1 : (k : Int) + 1 ≤ (G : Int) := by omega
      have m2 : (k : Int) < (G : Int) := by omega
      clear h2 hga
      go_wp2
      go_quiet ((go_at_call 119; exact Calls.quiet_of_same (refShare_any _ _ _ gl trd (HA.out _) (HB2.out _))))
      cases hsh : DeskM.share gl trd
      · go_wp2
        go_roundw
        case rel =>
          refine ⟨k + 1, by omega, by omega, by go_num, fun r h1 => ?_, below_drewN HBX.out _⟩
          by_cases e : r = k
          · subst e; rw [HCl.out, hsh, Bool.false_and]
          · exact HNo.out r (by omega)
        case measure => simp [intOf]; omega
      · go_wp2
        refine name_wp (p := fun Y => Below X.heap.size X Y) (below_drewN HBX.out _) ?_
        intro Y hY
        have HY : Hid (Below X.heap.size X Y) := hY
        clear hY b2 b3 d8 cw HB HBX
        go_loopw [7] (fun u wr2 => ∃ j : Nat, k ≤ j ∧ j ≤ G ∧ u = .int .i64 ((j : Int) + 1) ∧ (∀ r, k ≤ r → r < j → DeskM.share (d.goods.getD r good0).read (DeskM.wroteL tpu) = false) ∧ Below X.heap.size X wr2) (fun u _ => G + 1 - (intOf u).toNat)
        case atStart => exact ⟨k, Nat.le_refl _, hk, rfl, fun r h1 h2 => by omega, HY.out⟩
        case round =>
          obtain ⟨j, hj0, hj, rfl, hno2, hbel⟩ := hrel
          have HNo2 : Hid (∀ r, k ≤ r → r < j → DeskM.share (d.goods.getD r good0).read (DeskM.wroteL tpu) = false) := hno2
          have hX2 := (hbel.block _ (blk_lt HX.out.2)).trans HX.out.2
          have b3 : wr.cell? ⟨w.heap.size, 3, none⟩ = some wv := by rw [blk_cell hX2]; rfl
          have HB : Hid (Below w.heap.size w wr) := HX.out.1.trans (hbel.mono HX.out.1.size)
          have HBX : Hid (Below X.heap.size X wr) := hbel
          have d8 := (HB.out.cell (p := ⟨rb, 8, none⟩) hrb).trans c8
          clear hno2 hbel hX2
          have hwk2 : IntKind.i64.wrap ((j : Int) + 1 + 1) = (j : Int) + 1 + 1 := by rw [IntKind.wrap_i64]; omega
          have hwq2 : IntKind.i64.wrap ((j : Int) + 1 - 1) = (j : Int) := by rw [IntKind.wrap_i64]; omega
          by_cases hlt2 : j < G
          · have hjl : j < d.goods.length := by have := HG.out; omega
            obtain ⟨g', cap', hv, hga⟩ := (H.out.below HB.out).goodsAt (by omega)
            rw [HGV.out] at hv
            injection hv with h1 h2 h3
            injection h1 with h1
            injection h1 with h1
            subst h1
            have cw := hga.rd j hjl
            have HA2 : Hid (∀ n, BoolsV (wr.drewN n) (v.gs.getD j gv0).rv (d.goods.getD j good0).read) := fun n => owns_keep (hga.rdB j hjl) (below_drewN (Below.refl _ _) n)
            have HB3 : Hid (∀ n, BoolsV (wr.drewN n) wv (DeskM.wroteL tpu)) := fun n => owns_keep (owns_keep HW.out HB.out) (below_drewN (Below.refl _ _) n)
            have HSh : Hid (DeskM.share (d.goods.getD j good0).read (DeskM.wroteL tpu) = true → d.pivot ⟨tt, tbg, trd, tpu⟩ = k + 1) := fun hs => pivot_hit hql (by rw [HCl.out, hsh, Bool.true_and]; exact any_some hjl (by rw [decide_eq_true hj0, Bool.true_and]; exact hs)) HNo.out
            have HSf : Hid (DeskM.share (d.goods.getD j good0).read (DeskM.wroteL tpu) = false → ∀ r, k ≤ r → r < j + 1 → DeskM.share (d.goods.getD r good0).read (DeskM.wroteL tpu) = false) := fun hs r h1 h2 => by
              by_cases e : r = j
              · subst e; exact hs
              · exact HNo2.out r h1 (by omega)
            generalize (v.gs.getD j gv0).rv = gr at cw HA2
            generalize (d.goods.getD j good0).read = gq at HA2 HSh HSf
            have m3 : (j : Int) + 1 ≤ (G : Int) := by omega
            have m4 : (j : Int) < (G : Int) := by omega
            clear h2 h3 hga
            go_wp2
            go_quiet ((go_at_call 119; exact Calls.quiet_of_same (refShare_any _ _ _ gq (DeskM.wroteL tpu) (HA2.out _) (HB3.out _))))
            cases hsh2 : DeskM.share gq (DeskM.wroteL tpu)
            · go_wp2
              go_roundw
              case rel => exact ⟨j + 1, by omega, by omega, by go_num, HSf.out hsh2, below_drewN HBX.out _⟩
              case measure => simp [intOf]; omega
            · have HF1 : Hid (d.pivot ⟨tt, tbg, trd, tpu⟩ = k + 1) := HSh.out hsh2
              go_wp2
              go_ret
              exact ⟨by rw [HF1.out]; simp, below_drewN HB.out _⟩
          · have m3 : ¬ ((j : Int) + 1 ≤ (G : Int)) := by omega
            go_wp2
            go_roundw
            case rel =>
              refine ⟨k + 1, by omega, by omega, by go_num, fun r h1 => ?_, HBX.out⟩
              by_cases e : r = k
              · subst e
                rw [HCl.out, hsh, Bool.true_and]
                refine any_none (fun q hq => ?_)
                by_cases e2 : r ≤ q
                · rw [decide_eq_true e2, Bool.true_and]; exact HNo2.out q e2 (by have := HG.out; omega)
                · rw [decide_eq_false e2, Bool.false_and]
              · exact HNo.out r (by omega)
            case measure => simp [intOf]; omega
    · have m1 : ¬ ((k : Int) + 1 ≤ (G : Int)) := by omega
      have HF1 : Hid (d.pivot ⟨tt, tbg, trd, tpu⟩ = 0) := pivot_none (fun r hr => HNo.out r (by have := HG.out; omega))
      go_wp2
      go_ret
      exact ⟨by rw [HF1.out]; rfl, HB.out⟩
def outerQ (d : DeskM) (t : GoodM) (u v : Nat) : Bool := decide ((d.goods.getD u good0).beg ≤ v) && DeskM.share (DeskM.wroteL (d.goods.getD v good0).puts) (d.goods.getD u good0).read && (DeskM.share (DeskM.wroteL t.puts) (DeskM.wroteL t.puts) || decide (v + 1 ≤ t.beg))
def outerP (d : DeskM) (t : GoodM) (u : Nat) : Bool := decide (t.beg ≤ u) && DeskM.share (DeskM.wroteL (d.goods.getD u good0).puts) t.read && (List.range u).any (outerQ d t u)
theorem outer_eq (d : DeskM) (t : GoodM) : d.outer t = ((List.range d.goods.length).find? (outerP d t)).elim 0 (· + 1) := rfl
theorem outer_hit {d : DeskM} {t : GoodM} {q : Nat} (hq : q < d.goods.length) (hp : outerP d t q = true) (hf : ∀ r, r < q → outerP d t r = false) : d.outer t = q + 1 := by rw [outer_eq, fwdfind_some hp _ hq hf]; rfl
theorem outer_none {d : DeskM} {t : GoodM} (hf : ∀ r, r < d.goods.length → outerP d t r = false) : d.outer t = 0 := by rw [outer_eq, fwdfind_none hf]; rfl
theorem refOuter_any (F : Nat → Prop) (w : World) (rb : Nat) (d : DeskM) (v : RV) (t : GoodM) (rv wv pv : Value) (h : RD F w rb d v) (hn : d.goods.length ≤ 1000000000) (htb : t.beg ≤ d.goods.length) (hgb : ∀ q, q < d.goods.length → (d.goods.getD q good0).beg ≤ 1000000000) (hr : BoolsV w rv t.read) (hw : BoolsV w wv (DeskM.wroteL t.puts)) :
    Calls Tryz.prog 108 #[ptrV rb, lookV t rv wv pv] w fun e w' => e = .returned (natV (d.outer t)) ∧ Below w.heap.size w w' := by
  have H : Hid (RD F w rb d v) := h
  have HW : Hid (BoolsV w wv (DeskM.wroteL t.puts)) := hw
  have HRd : Hid (BoolsV w rv t.read) := hr
  have HGb : Hid (∀ q, q < d.goods.length → (d.goods.getD q good0).beg ≤ 1000000000) := hgb
  obtain ⟨G, hG⟩ : ∃ G, G = d.goods.length := ⟨_, rfl⟩
  have HG : Hid (G = d.goods.length) := hG
  obtain ⟨ga, gc, hgv⟩ := owns_form h.goods
  have c8 : w.cell? ⟨rb, 8, none⟩ = some (.slice ga G gc) := by rw [blk_cell h.blk, hG, ← hgv]; rfl
  have HGV : Hid (v.gv = .slice ga G gc) := by rw [hG]; exact hgv
  have hrb := blk_lt h.blk
  rw [← hG] at hn htb
  obtain ⟨tt, tbg, trd, tpu⟩ := t
  simp only at htb HRd
  have hwb : IntKind.i64.wrap ((tbg : Int) + 1) = (tbg : Int) + 1 := by rw [IntKind.wrap_i64]; omega
  unfold lookV ptrV natV
  simp only
  clear h hw hr hG hgv hgb
  go_enter Tryz.func108, Tryz.ntmps108
  go_wp2_with fail
  refine name_calls (p := fun X => Below w.heap.size w X ∧ X.heap[w.heap.size]? = some (.cells #[.int .i64 (tt : Int), .int .i64 (tbg : Int), rv, wv, pv] 156 (0, 0))) ⟨(Below.refl _ _).alloc (Nat.le_refl _) _, heap_alloc_new _ _⟩ ?_
  rintro X ⟨k1, k2⟩
  have HX : Hid (Below w.heap.size w X ∧ X.heap[w.heap.size]? = some (.cells #[.int .i64 (tt : Int), .int .i64 (tbg : Int), rv, wv, pv] 156 (0, 0))) := ⟨k1, k2⟩
  have a1 : X.cell? ⟨w.heap.size, 1, none⟩ = some (.int .i64 (tbg : Int)) := by rw [blk_cell k2]; rfl
  clear k1 k2
  refine (refShare_any X wv wv (DeskM.wroteL tpu) (DeskM.wroteL tpu) (owns_keep HW.out HX.out.1) (owns_keep HW.out HX.out.1)).mono ?_
  rintro e X' ⟨rfl, hX'⟩
  obtain rfl := hX'.symm
  clear hX'
  obtain ⟨sw, hsw⟩ : ∃ sw, sw = DeskM.share (DeskM.wroteL tpu) (DeskM.wroteL tpu) := ⟨_, rfl⟩
  have HSw : Hid (sw = DeskM.share (DeskM.wroteL tpu) (DeskM.wroteL tpu)) := hsw
  rw [← hsw]
  clear hsw
  go_wp2
  go_loopw [6] (fun u wr => ∃ k : Nat, tbg ≤ k ∧ k ≤ G ∧ u = .int .i64 ((k : Int) + 1) ∧ (∀ r, r < k → outerP d ⟨tt, tbg, trd, tpu⟩ r = false) ∧ Below X.heap.size X wr) (fun u _ => G + 1 - (intOf u).toNat)
  case atStart => exact ⟨tbg, Nat.le_refl _, htb, rfl, fun r hr => by unfold outerP; rw [decide_eq_false (by show ¬ tbg ≤ r; omega), Bool.false_and, Bool.false_and], Below.refl _ _⟩
  case round =>
    obtain ⟨k, hk0, hk, rfl, hno, hbel⟩ := hrel
    have HNo : Hid (∀ r, r < k → outerP d ⟨tt, tbg, trd, tpu⟩ r = false) := hno
    have hX2 := (hbel.block _ (blk_lt HX.out.2)).trans HX.out.2
    have b2 : wr.cell? ⟨w.heap.size, 2, none⟩ = some rv := by rw [blk_cell hX2]; rfl
    have hwlt := blk_lt hX2
    have HB : Hid (Below w.heap.size w wr) := HX.out.1.trans (hbel.mono HX.out.1.size)
    have HBX : Hid (Below X.heap.size X wr) := hbel
    have d8 := (HB.out.cell (p := ⟨rb, 8, none⟩) hrb).trans c8
    clear hno hbel hX2
    have hwk : IntKind.i64.wrap ((k : Int) + 1 + 1) = (k : Int) + 1 + 1 := by rw [IntKind.wrap_i64]; omega
    have hwq : IntKind.i64.wrap ((k : Int) + 1 - 1) = (k : Int) := by rw [IntKind.wrap_i64]; omega
    by_cases hlt : k < G
    · have hql : k < d.goods.length := by have := HG.out; omega
      obtain ⟨g, cap, hv, hga⟩ := (H.out.below HB.out).goodsAt (by omega)
      rw [HGV.out] at hv
      injection hv with h1 h2 h3
      subst h1 h3
      have g0 := hga.tick k hql
      have g1 := hga.beg k hql
      have g2 := hga.rd k hql
      have g3 := hga.wr k hql
      have g4 := hga.pt k hql
      have hgl := hga.gl
      have hbg := HGb.out k hql
      unfold natV at g0 g1
      have HA : Hid (BoolsV wr (v.gs.getD k gv0).wv (DeskM.wroteL (d.goods.getD k good0).puts) ∧ BoolsV wr (v.gs.getD k gv0).rv (d.goods.getD k good0).read) := ⟨hga.wrB k hql, hga.rdB k hql⟩
      have HCl : Hid (outerP d ⟨tt, tbg, trd, tpu⟩ k = (DeskM.share (DeskM.wroteL (d.goods.getD k good0).puts) trd && (List.range k).any (outerQ d ⟨tt, tbg, trd, tpu⟩ k))) := by
        show _ = _
        unfold outerP
        rw [decide_eq_true (show tbg ≤ k by omega), Bool.true_and]
      obtain ⟨gm, hgm⟩ : ∃ gm, gm = d.goods.getD k good0 := ⟨_, rfl⟩
      have HGm : Hid (d.goods.getD k good0 = gm) := hgm.symm
      obtain ⟨gvk, hgvk⟩ : ∃ gvk, gvk = v.gs.getD k gv0 := ⟨_, rfl⟩
      rw [← hgm] at g0 g1 hbg HA HCl
      rw [← hgvk] at g2 g3 g4 HA
      obtain ⟨gtk, gbg, grd, gpu⟩ := gm
      obtain ⟨grv, gwv, gpv, gpl⟩ := gvk
      simp only at g0 g1 g2 g3 g4 hbg HA HCl
      have m1 : (k : Int) + 1 ≤ (G : Int) := by omega
      have m2 : (k : Int) < (G : Int) := by omega
      obtain ⟨ra, rc, rfl⟩ := owns_form HA.out.2
      obtain ⟨wa, wc, rfl⟩ := owns_form HA.out.1
      obtain ⟨pa, pn, pc, rfl⟩ : ∃ pa pn pc, gpv = .slice pa pn pc := by
        have := owns_form ((H.out.gb k hql).2.2.1)
        rw [← hgvk] at this
        obtain ⟨pa, pc, e⟩ := this
        exact ⟨pa, _, pc, e⟩
      clear h2 hga hgm hgvk
      go_wp2_with fail
      refine name_calls (p := fun Z => Below wr.heap.size wr Z ∧ Z.heap[wr.heap.size]? = some (.cells #[.int .i64 (gtk : Int), .int .i64 (gbg : Int), .slice ra 16 rc, .slice wa 16 wc, .slice pa pn pc] 156 (0, 0))) ⟨(Below.refl _ _).alloc (Nat.le_refl _) _, heap_alloc_new _ _⟩ ?_
      rintro Z ⟨k1, k2⟩
      have HZ : Hid (Below X.heap.size X Z ∧ Z.heap[wr.heap.size]? = some (.cells #[.int .i64 (gtk : Int), .int .i64 (gbg : Int), .slice ra 16 rc, .slice wa 16 wc, .slice pa pn pc] 156 (0, 0)) ∧ Below w.heap.size w Z ∧ BoolsV Z (.slice wa 16 wc) (DeskM.wroteL gpu)) := ⟨HBX.out.trans (k1.mono HBX.out.size), k2, HB.out.trans (k1.mono HB.out.size), owns_keep HA.out.1 k1⟩
      have z1 : Z.cell? ⟨wr.heap.size, 1, none⟩ = some (.int .i64 (gbg : Int)) := by rw [blk_cell k2]; rfl
      have HRr : Hid (BoolsV w (.slice ra 16 rc) grd ∨ True) := Or.inr trivial
      have HGr : Hid (BoolsV Z (.slice ra 16 rc) grd) := owns_keep HA.out.2 k1
      have hbo := blk_lt k2
      clear k1 k2 HA HRr
      generalize wr.heap.size = bo at *
      refine (refShare_any Z _ rv (DeskM.wroteL gpu) trd HZ.out.2.2.2 (owns_keep HRd.out HZ.out.2.2.1)).mono ?_
      rintro e Z' ⟨rfl, hZ'⟩
      obtain rfl := hZ'.symm
      clear hZ'
      cases hsh : DeskM.share (DeskM.wroteL gpu) trd
      · go_wp2
        go_roundw
        case rel =>
          refine ⟨k + 1, by omega, by omega, by go_num, fun r h1 => ?_, HZ.out.1⟩
          by_cases e : r = k
          · subst e; rw [HCl.out, hsh, Bool.false_and]
          · exact HNo.out r (by omega)
        case measure => simp [intOf]; omega
      · have hwg : IntKind.i64.wrap ((gbg : Int) + 1) = (gbg : Int) + 1 := by rw [IntKind.wrap_i64]; omega
        clear b2 d8 HB HBX g0 g1 g2 g3 g4
        go_wp2
        go_loopw [9] (fun u wr2 => ∃ j : Nat, gbg ≤ j ∧ j ≤ 1000000000 + k ∧ u = .int .i64 ((j : Int) + 1) ∧ (∀ r, r < j → outerQ d ⟨tt, tbg, trd, tpu⟩ k r = false) ∧ Below Z.heap.size Z wr2) (fun u _ => k + 1 - (intOf u).toNat)
        case atStart => exact ⟨gbg, Nat.le_refl _, by omega, rfl, fun r hr => by unfold outerQ; rw [HGm.out, decide_eq_false (by show ¬ gbg ≤ r; omega), Bool.false_and, Bool.false_and], Below.refl _ _⟩
        case round =>
          obtain ⟨j, hj0, hj1, rfl, hno2, hbel⟩ := hrel
          have HNo2 : Hid (∀ r, r < j → outerQ d ⟨tt, tbg, trd, tpu⟩ k r = false) := hno2
          have hZ2 := (hbel.block _ hbo).trans HZ.out.2.1
          have z2 : wr.cell? ⟨bo, 2, none⟩ = some (.slice ra 16 rc) := by rw [blk_cell hZ2]; rfl
          have HBX : Hid (Below X.heap.size X wr) := HZ.out.1.trans (hbel.mono HZ.out.1.size)
          have hX2 := (HBX.out.block _ (blk_lt HX.out.2)).trans HX.out.2
          have b1 : wr.cell? ⟨w.heap.size, 1, none⟩ = some (.int .i64 (tbg : Int)) := by rw [blk_cell hX2]; rfl
          have HB : Hid (Below w.heap.size w wr) := HX.out.1.trans (HBX.out.mono HX.out.1.size)
          have HBZ : Hid (Below Z.heap.size Z wr) := hbel
          have d8 := (HB.out.cell (p := ⟨rb, 8, none⟩) hrb).trans c8
          clear hno2 hbel hZ2 hX2
          have hwk2 : IntKind.i64.wrap ((j : Int) + 1 + 1) = (j : Int) + 1 + 1 := by rw [IntKind.wrap_i64]; omega
          have hwq2 : IntKind.i64.wrap ((j : Int) + 1 - 1) = (j : Int) := by rw [IntKind.wrap_i64]; omega
          by_cases hlt2 : j < k
          · have hjl : j < d.goods.length := by omega
            obtain ⟨g', cap', hv, hga⟩ := (H.out.below HB.out).goodsAt (by omega)
            rw [HGV.out] at hv
            injection hv with h1 h2 h3
            injection h1 with h1
            injection h1 with h1
            subst h1
            have cw := hga.wr j hjl
            have HA2 : Hid (∀ n, BoolsV (wr.drewN n) (v.gs.getD j gv0).wv (DeskM.wroteL (d.goods.getD j good0).puts)) := fun n => owns_keep (hga.wrB j hjl) (below_drewN (Below.refl _ _) n)
            have HB3 : Hid (∀ n, BoolsV (wr.drewN n) (.slice ra 16 rc) grd) := fun n => owns_keep (owns_keep HGr.out HBZ.out) (below_drewN (Below.refl _ _) n)
            have HQ : Hid (outerQ d ⟨tt, tbg, trd, tpu⟩ k j = (DeskM.share (DeskM.wroteL (d.goods.getD j good0).puts) grd && (sw || decide (j + 1 ≤ tbg)))) := by
              show _ = _
              unfold outerQ
              rw [HGm.out, decide_eq_true hj0, Bool.true_and, HSw.out]
            generalize (v.gs.getD j gv0).wv = gw at cw HA2
            generalize DeskM.wroteL (d.goods.getD j good0).puts = gq at HA2 HQ
            have HSh : Hid (outerQ d ⟨tt, tbg, trd, tpu⟩ k j = true → d.outer ⟨tt, tbg, trd, tpu⟩ = k + 1) := fun hs => outer_hit hql (by rw [HCl.out, hsh, Bool.true_and]; exact any_some hlt2 hs) HNo.out
            have HSf : Hid (outerQ d ⟨tt, tbg, trd, tpu⟩ k j = false → ∀ r, r < j + 1 → outerQ d ⟨tt, tbg, trd, tpu⟩ k r = false) := fun hs r h1 => by
              by_cases e : r = j
              · subst e; exact hs
              · exact HNo2.out r (by omega)
            have m3 : (j : Int) + 1 < (k : Int) + 1 := by omega
            have m4 : (j : Int) < (G : Int) := by omega
            clear h2 h3 hga
            go_wp2
            go_quiet ((go_at_call 119; exact Calls.quiet_of_same (refShare_any _ _ _ gq grd (HA2.out _) (HB3.out _))))
            cases hsh2 : DeskM.share gq grd
            · go_wp2
              go_roundw
              case rel => exact ⟨j + 1, by omega, by omega, by go_num, HSf.out (by rw [HQ.out, hsh2, Bool.false_and]), below_drewN HBZ.out _⟩
              case measure => simp [intOf]; omega
            · cases sw
              · by_cases hv2 : j + 1 ≤ tbg
                · have HF1 : Hid (d.outer ⟨tt, tbg, trd, tpu⟩ = k + 1) := HSh.out (by rw [HQ.out, hsh2, decide_eq_true hv2]; rfl)
                  have m5 : (j : Int) + 1 ≤ (tbg : Int) := by omega
                  go_wp2
                  go_ret
                  exact ⟨by rw [HF1.out]; simp, below_drewN HB.out _⟩
                · have m5 : ¬ ((j : Int) + 1 ≤ (tbg : Int)) := by omega
                  have HF2 : Hid (∀ r, r < j + 1 → outerQ d ⟨tt, tbg, trd, tpu⟩ k r = false) := HSf.out (by rw [HQ.out, hsh2, decide_eq_false hv2]; rfl)
                  go_wp2
                  go_roundw
                  case rel => exact ⟨j + 1, by omega, by omega, by go_num, HF2.out, below_drewN HBZ.out _⟩
                  case measure => simp [intOf]; omega
              · have HF1 : Hid (d.outer ⟨tt, tbg, trd, tpu⟩ = k + 1) := HSh.out (by rw [HQ.out, hsh2]; rfl)
                go_wp2
                go_ret
                exact ⟨by rw [HF1.out]; simp, below_drewN HB.out _⟩
          · have m3 : ¬ ((j : Int) + 1 < (k : Int) + 1) := by omega
            go_wp2
            go_roundw
            case rel =>
              refine ⟨k + 1, by omega, by omega, by go_num, fun r h1 => ?_, HBX.out⟩
              by_cases e : r = k
              · subst e
                rw [HCl.out, hsh, Bool.true_and]
                exact any_none (fun q hq => HNo2.out q (by omega))
              · exact HNo.out r (by omega)
            case measure => simp [intOf]; omega
    · have m1 : ¬ ((k : Int) + 1 ≤ (G : Int)) := by omega
      have HF1 : Hid (d.outer ⟨tt, tbg, trd, tpu⟩ = 0) := outer_none (fun r hr => HNo.out r (by have := HG.out; omega))
      go_wp2
      go_ret
      exact ⟨by rw [HF1.out]; rfl, HB.out⟩
end Go.Proofs.YtlbmcdoldnajoaaGreat
