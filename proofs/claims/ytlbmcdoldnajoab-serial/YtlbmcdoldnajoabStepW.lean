import Derived.Test.YtlbmcdoldnajoabRunP
import Derived.Deep.QuietTactic
import Derived.BigQuiet

namespace Go.Proofs.Ytlbmcdoldnajoab
open Go.RowKit
def mkSt (x0 x1 x2 x3 i n lo kn : Int) : St :=
  let op := 1 + pickI x0 12
  let a := pickI x1 4
  let k := lo + pickI x2 kn
  let m := lo + pickI x3 kn
  if op = 1 then ⟨1, a, pickI x2 1000, 0⟩
  else if op = 2 then ⟨2, a, k, 0⟩
  else if op = 3 then ⟨3, k, a, 0⟩
  else if op = 4 then ⟨4, k, 0, 0⟩
  else if op = 5 ∨ op = 6 then (if m < k then ⟨op, a, m, k⟩ else ⟨op, a, k, m⟩)
  else if op = 7 ∨ op = 8 then ⟨op, a, pickI x2 4, 0⟩
  else if op = 9 then (if n - i - 1 < 1 then ⟨11, a, 0, 0⟩ else ⟨9, a, 1 + pickI x2 (n - i - 1), 0⟩)
  else if op = 10 then (if i < 1 then ⟨11, a, 0, 0⟩ else ⟨10, a, 1 + pickI x2 i, 0⟩)
  else if op = 11 then ⟨11, a, 0, 0⟩
  else ⟨12, 0, 0, 0⟩
def Stepped (s : St) (w : World) (e : Ending) (w' : World) : Prop := e = .returned (agS s) ∧ Below w.heap.size w w'
/-- four numbers lie there -/
def Four (w : World) (b off : Nat) (x0 x1 x2 x3 : Int) : Prop := w.cell? ⟨b, off, none⟩ = some (.int .i64 x0) ∧ w.cell? ⟨b, off + 1, none⟩ = some (.int .i64 x1) ∧ w.cell? ⟨b, off + 2, none⟩ = some (.int .i64 x2) ∧ w.cell? ⟨b, off + 3, none⟩ = some (.int .i64 x3)
section
variable (d : Option Tmp) (x y : Operand) (ty : TypeId) (ps : String) (af : Array Edge) (gd : Option (Nat × Bool)) (a : Act) (w : World) (K : Act → World → Prop) (Q : Exit → Act → World → Prop)
theorem wStS : Oper.wp Try.prog ⟨d, .store 78 x y, ty, ps, af, gd⟩ a w K Q = WOp ⟨d, .store 78 x y, ty, ps, af, gd⟩ a w K Q := wop_eq _ _ _ _ _
theorem wLdS : Oper.wp Try.prog ⟨d, .load 78 x, ty, ps, af, gd⟩ a w K Q = WOp ⟨d, .load 78 x, ty, ps, af, gd⟩ a w K Q := wop_eq _ _ _ _ _
end
/-- a step's own block -/
def StBlk (w : World) (b : Nat) (p q r s : Int) : Prop := w.heap[b]? = some (.cells #[.int .i64 p, .int .i64 q, .int .i64 r, .int .i64 s] 78 (0, 0))
theorem StBlk.at {w : World} {b : Nat} {p q r s : Int} (h : StBlk w b p q r s) : w.rangeAt b 0 [.int .i64 p, .int .i64 q, .int .i64 r, .int .i64 s] := blk_rangeAt (pre := []) (post := []) (by simpa [StBlk] using h) rfl
theorem StBlk.load {w : World} {b : Nat} {p q r s : Int} (h : StBlk w b p q r s) : (loadVar 78 ⟨b, 0, none⟩).run Try.prog w = .ok (.agg #[.int .i64 p, .int .i64 q, .int .i64 r, .int .i64 s]) w :=
  run_loadVar_mid w b 0 _ _ _ h.at Try.underlying78 rfl (by rw [Try.sizeStep]; rfl)
theorem StBlk.a {w : World} {b : Nat} {p q r s : Int} (h : StBlk w b p q r s) (v : Int) : StBlk (w.setCell ⟨b, 1, none⟩ (.int .i64 v)) b p v r s := (blk_set h _ _).trans rfl
theorem StBlk.b {w : World} {b : Nat} {p q r s : Int} (h : StBlk w b p q r s) (v : Int) : StBlk (w.setCell ⟨b, 2, none⟩ (.int .i64 v)) b p q v s := (blk_set h _ _).trans rfl
theorem StBlk.c {w : World} {b : Nat} {p q r s : Int} (h : StBlk w b p q r s) (v : Int) : StBlk (w.setCell ⟨b, 3, none⟩ (.int .i64 v)) b p q r v := (blk_set h _ _).trans rfl
theorem StBlk.other {w : World} {b b' i : Nat} {p q r s : Int} {v : Value} (h : StBlk w b p q r s) (hb : b ≠ b') : StBlk (w.setCell ⟨b', i, none⟩ v) b p q r s := (blk_other hb i v).trans h
theorem StBlk.facts {w : World} {b : Nat} {p q r s : Int} (h : StBlk w b p q r s) : w.cell? ⟨b, 0, none⟩ = some (.int .i64 p) ∧ w.cell? ⟨b, 1, none⟩ = some (.int .i64 q) ∧ w.cell? ⟨b, 2, none⟩ = some (.int .i64 r) ∧ w.cell? ⟨b, 3, none⟩ = some (.int .i64 s) ∧ ∀ j, w.frozen? ⟨b, j, none⟩ = false :=
  ⟨by rw [blk_cell h]; rfl, by rw [blk_cell h]; rfl, by rw [blk_cell h]; rfl, by rw [blk_cell h]; rfl, fun _ => blk_free h⟩
theorem StBlk.one {p q r s : Int} : (#[.int .i64 p, .int .i64 q, .int .i64 r, .int .i64 s] : Array Value).all (·.oneCell') = true := all_oneCell_toArray (cs := [.int .i64 p, .int .i64 q, .int .i64 r, .int .i64 s]) (fun v hv => by simp at hv; rcases hv with rfl | rfl | rfl | rfl <;> rfl)
/-- what 'step' has laid ahead of its switch: the keys' box, the result's, the step's own -/
structure SI (w : World) (sb : Nat) (op : Int) (V : World) : Prop where
  res : StBlk V (w.heap.size + 1) 0 0 0 0
  own : StBlk V sb op 0 0 0
  bel : Below w.heap.size w V
  gt : w.heap.size + 1 < sb
end Go.Proofs.Ytlbmcdoldnajoab
namespace Go.Proofs.Ytlbmcdoldnajoab
open Go.RowKit
attribute [local go_sem ↓] wStS wLdS
set_option maxRecDepth 100000 in
set_option maxHeartbeats 1000000 in
theorem step_0 (b off cap : Nat) (x0 x1 x2 x3 i n lo kn : Int) (w : World) (hb : b < w.heap.size) (h4 : Four w b off x0 x1 x2 x3) (h0 : i64B x0) (h1 : i64B x1) (h2 : i64B x2) (h3 : i64B x3) (hk : 0 < kn) (hk' : kn ≤ 16) (hlo : 0 ≤ lo) (hlo' : lo ≤ 16)
    (hr : 0 ≤ i ∧ i < n ∧ n ≤ 32) (he : pickI x0 12 = 0)  :
    Calls Try.prog 51 #[.slice (some ⟨b, off, none⟩) 4 cap, .int .i64 i, .int .i64 n, .agg #[.int .i64 lo, .int .i64 kn]] w fun e w' => Stepped (mkSt x0 x1 x2 x3 i n lo kn) w e w' := by
  obtain ⟨c0, c1, c2, c3⟩ := h4
  obtain ⟨hi, hin, hn⟩ := hr
  have HX : Hid (i64B x0 ∧ i64B x1 ∧ i64B x2 ∧ i64B x3) := ⟨h0, h1, h2, h3⟩
  have HE : Hid (pickI x0 12 = 0) := he
  clear h0 h1 h2 h3 he
  obtain ⟨y1, hy1⟩ : ∃ y, y = pickI x1 4 := ⟨_, rfl⟩
  obtain ⟨y2, hy2⟩ : ∃ y, y = pickI x2 kn := ⟨_, rfl⟩
  obtain ⟨y3, hy3⟩ : ∃ y, y = pickI x3 kn := ⟨_, rfl⟩
  have a3 := pickI_lo x2 hk
  have a4 := pickI_hi x2 hk
  have a5 := pickI_lo x3 hk
  have a6 := pickI_hi x3 hk
  have HY : Hid (y1 = pickI x1 4 ∧ y2 = pickI x2 kn ∧ y3 = pickI x3 kn) := ⟨hy1, hy2, hy3⟩
  rw [← hy2] at a3 a4
  rw [← hy3] at a5 a6
  clear hy1 hy2 hy3
  obtain ⟨fs, hfs⟩ : ∃ fs, fs = mkSt x0 x1 x2 x3 i n lo kn := ⟨_, rfl⟩
  have HM : Hid (fs = mkSt x0 x1 x2 x3 i n lo kn) := hfs
  rw [← hfs]
  clear hfs
  have w2 : IntKind.i64.wrap (lo + y2) = lo + y2 := by rw [IntKind.wrap_i64]; omega
  have w3 : IntKind.i64.wrap (lo + y3) = lo + y3 := by rw [IntKind.wrap_i64]; omega
  have HP2 : Hid (∀ W : World, Calls Try.prog 30 #[.int .i64 x2, .int .i64 kn] W fun e w' => e = .returned (.int .i64 y2) ∧ w' = W) := fun W => by have := pick_any x2 kn W HX.out.2.2.1 (by omega) (by omega); rwa [← HY.out.2.1] at this
  have HP3 : Hid (∀ W : World, Calls Try.prog 30 #[.int .i64 x3, .int .i64 kn] W fun e w' => e = .returned (.int .i64 y3) ∧ w' = W) := fun W => by have := pick_any x3 kn W HX.out.2.2.2 (by omega) (by omega); rwa [← HY.out.2.2] at this
  go_enter Try.func51, Try.ntmps51
  go_wp2_with fail
  refine name_calls (p := fun X => Below w.heap.size w X ∧ X.heap[w.heap.size]? = some (.cells #[.int .i64 lo, .int .i64 kn] 87 (0, 0)) ∧ StBlk X (w.heap.size + 1) 0 0 0 0) ⟨((Below.refl _ _).alloc (Nat.le_refl _) _).alloc (by simp) _, new_old (heap_alloc_new _ _), new_1 _ _ _⟩ ?_
  rintro X ⟨k1, k2, k3⟩
  have d1 := (k1.cell (p := ⟨b, off + 1, none⟩) hb).trans c1
  have d2 := (k1.cell (p := ⟨b, off + 2, none⟩) hb).trans c2
  have d3 := (k1.cell (p := ⟨b, off + 3, none⟩) hb).trans c3
  have hwX := blk_lt k3
  have HXX : Hid (Below w.heap.size w X ∧ X.heap[w.heap.size]? = some (.cells #[.int .i64 lo, .int .i64 kn] 87 (0, 0)) ∧ StBlk X (w.heap.size + 1) 0 0 0 0) := ⟨k1, k2, k3⟩
  have hbX : b < X.heap.size := by omega
  clear k1 k2 k3 c0 c1 c2 c3
  refine (pick_any x0 12 X HX.out.1 (by omega) (by omega)).mono ?_
  rintro e X' ⟨rfl, h⟩
  obtain rfl := h.symm
  rw [HE.out]
  clear h
  go_wp2
  refine wp_stN (T := 78) X.heap.size (by rfl) (by rfl) (by rfl) (by exact heap_alloc_new _ _) (by exact Try.sizeStep) (by rfl) (by exact StBlk.one) ?_
  rintro Y hY hF
  have HI0 : Hid (SI w X.heap.size (1 + 0) Y ∧ Below X.heap.size X Y) := by
    have hb1 : Below X.heap.size X Y := ((Below.refl _ X).alloc (Nat.le_refl _) _).trans (hF.below (by omega) (by simp))
    exact ⟨⟨(hb1.block _ hwX).trans HXX.out.2.2, hY, HXX.out.1.trans (hb1.mono HXX.out.1.size), hwX⟩, hb1⟩
  have e1 := (HI0.out.2.cell (p := ⟨b, off + 1, none⟩) hbX).trans d1
  have e2 := (HI0.out.2.cell (p := ⟨b, off + 2, none⟩) hbX).trans d2
  have e3 := (HI0.out.2.cell (p := ⟨b, off + 3, none⟩) hbX).trans d3
  have hwX0 : w.heap.size < X.heap.size := by omega
  have m0 : Y.cell? ⟨w.heap.size, 0, none⟩ = some (.int .i64 lo) := by rw [blk_cell ((HI0.out.2.block _ hwX0).trans HXX.out.2.1)]; rfl
  have m1 : Y.cell? ⟨w.heap.size, 1, none⟩ = some (.int .i64 kn) := by rw [blk_cell ((HI0.out.2.block _ hwX0).trans HXX.out.2.1)]; rfl
  clear hY hF d1 d2 d3 HXX
  go_wp2_with (go_at_call 30; refine (pick_any x1 4 Y HX.out.2.1 (by omega) (by omega)).mono ?_; rintro e Y' ⟨rfl, h⟩; obtain rfl := h.symm; rw [← HY.out.1]; clear h)
  go_quiet ((go_at_call 30; exact Calls.quiet_of_same (HP2.out _)))
  have f2 : (Y.drewN nq).cell? ⟨b, off + 2, none⟩ = some (.int .i64 x2) := e2
  have f3 : (Y.drewN nq).cell? ⟨b, off + 3, none⟩ = some (.int .i64 x3) := e3
  have n0 : (Y.drewN nq).cell? ⟨w.heap.size, 0, none⟩ = some (.int .i64 lo) := m0
  have n1 : (Y.drewN nq).cell? ⟨w.heap.size, 1, none⟩ = some (.int .i64 kn) := m1
  have HI1 : Hid (SI w X.heap.size (1 + 0) (Y.drewN nq)) := ⟨HI0.out.1.res, HI0.out.1.own, below_drewN HI0.out.1.bel _, HI0.out.1.gt⟩
  clear e1 e2 e3 m0 m1 HI0
  generalize Y.drewN nq = Z at *
  go_wp2
  go_quiet ((go_at_call 30; exact Calls.quiet_of_same (HP3.out _)))
  have g2 : (Z.drewN nq).cell? ⟨b, off + 2, none⟩ = some (.int .i64 x2) := f2
  have HI : Hid (SI w X.heap.size (1 + 0) (Z.drewN nq)) := ⟨HI1.out.res, HI1.out.own, below_drewN HI1.out.bel _, HI1.out.gt⟩
  clear f2 f3 n0 n1 HI1 HP2 HP3
  generalize Z.drewN nq = V at *
  obtain ⟨s0, s1, s2, s3, sf⟩ := HI.out.own.facts
  have hlV := blk_lt HI.out.own
  have hbw : ¬ b = X.heap.size := by omega
  clear hwX hwX0
  generalize X.heap.size = sb at *
  go_wp2_with (go_at_call 30; refine (pick_any x2 1000 _ HX.out.2.2.1 (by omega) (by omega)).mono ?_; rintro e w' ⟨rfl, h⟩; obtain rfl := h.symm; clear h)
  refine wp_ldN (T := 78) sb 0 (by rfl) (by rfl) (by exact StBlk.at ((HI.out.own.a _).b _)) (by exact Try.underlying78) (by rfl) (by exact Try.sizeStep) ?_
  go_wp2
  refine wp_stN (T := 78) (w.heap.size + 1) (by rfl) (by rfl) (by rfl) (by exact ((HI.out.res.other (by have := HI.out.gt; omega)).other (by have := HI.out.gt; omega))) (by exact Try.sizeStep) (by rfl) (by exact StBlk.one) ?_
  rintro U hU hF
  have HU : Hid (StBlk U (w.heap.size + 1) (1) (y1) (pickI x2 1000) (0) ∧ Below w.heap.size w U) := ⟨hU, ((HI.out.bel.setCell (p := ⟨sb, _, none⟩) (by have := HI.out.gt; show w.heap.size ≤ sb; omega) _).setCell (p := ⟨sb, _, none⟩) (by have := HI.out.gt; show w.heap.size ≤ sb; omega) _).trans (hF.below (by omega) (by have := HI.out.bel.size; simpa using this))⟩
  clear hU hF
  go_wp2
  refine bodyPost_ret (results_cell1 (by rfl) (by rfl) HU.out.1.load) rfl ⟨?_, HU.out.2⟩
  rw [HM.out]
  have hh := HY.out
  obtain ⟨z1, z2, z3⟩ := hh
  unfold mkSt
  rw [HE.out, ← z1, ← z2, ← z3]
  simp
  rfl
set_option maxRecDepth 100000 in
set_option maxHeartbeats 1000000 in
theorem step_1 (b off cap : Nat) (x0 x1 x2 x3 i n lo kn : Int) (w : World) (hb : b < w.heap.size) (h4 : Four w b off x0 x1 x2 x3) (h0 : i64B x0) (h1 : i64B x1) (h2 : i64B x2) (h3 : i64B x3) (hk : 0 < kn) (hk' : kn ≤ 16) (hlo : 0 ≤ lo) (hlo' : lo ≤ 16)
    (hr : 0 ≤ i ∧ i < n ∧ n ≤ 32) (he : pickI x0 12 = 1)  :
    Calls Try.prog 51 #[.slice (some ⟨b, off, none⟩) 4 cap, .int .i64 i, .int .i64 n, .agg #[.int .i64 lo, .int .i64 kn]] w fun e w' => Stepped (mkSt x0 x1 x2 x3 i n lo kn) w e w' := by
  obtain ⟨c0, c1, c2, c3⟩ := h4
  obtain ⟨hi, hin, hn⟩ := hr
  have HX : Hid (i64B x0 ∧ i64B x1 ∧ i64B x2 ∧ i64B x3) := ⟨h0, h1, h2, h3⟩
  have HE : Hid (pickI x0 12 = 1) := he
  clear h0 h1 h2 h3 he
  obtain ⟨y1, hy1⟩ : ∃ y, y = pickI x1 4 := ⟨_, rfl⟩
  obtain ⟨y2, hy2⟩ : ∃ y, y = pickI x2 kn := ⟨_, rfl⟩
  obtain ⟨y3, hy3⟩ : ∃ y, y = pickI x3 kn := ⟨_, rfl⟩
  have a3 := pickI_lo x2 hk
  have a4 := pickI_hi x2 hk
  have a5 := pickI_lo x3 hk
  have a6 := pickI_hi x3 hk
  have HY : Hid (y1 = pickI x1 4 ∧ y2 = pickI x2 kn ∧ y3 = pickI x3 kn) := ⟨hy1, hy2, hy3⟩
  rw [← hy2] at a3 a4
  rw [← hy3] at a5 a6
  clear hy1 hy2 hy3
  obtain ⟨fs, hfs⟩ : ∃ fs, fs = mkSt x0 x1 x2 x3 i n lo kn := ⟨_, rfl⟩
  have HM : Hid (fs = mkSt x0 x1 x2 x3 i n lo kn) := hfs
  rw [← hfs]
  clear hfs
  have w2 : IntKind.i64.wrap (lo + y2) = lo + y2 := by rw [IntKind.wrap_i64]; omega
  have w3 : IntKind.i64.wrap (lo + y3) = lo + y3 := by rw [IntKind.wrap_i64]; omega
  have HP2 : Hid (∀ W : World, Calls Try.prog 30 #[.int .i64 x2, .int .i64 kn] W fun e w' => e = .returned (.int .i64 y2) ∧ w' = W) := fun W => by have := pick_any x2 kn W HX.out.2.2.1 (by omega) (by omega); rwa [← HY.out.2.1] at this
  have HP3 : Hid (∀ W : World, Calls Try.prog 30 #[.int .i64 x3, .int .i64 kn] W fun e w' => e = .returned (.int .i64 y3) ∧ w' = W) := fun W => by have := pick_any x3 kn W HX.out.2.2.2 (by omega) (by omega); rwa [← HY.out.2.2] at this
  go_enter Try.func51, Try.ntmps51
  go_wp2_with fail
  refine name_calls (p := fun X => Below w.heap.size w X ∧ X.heap[w.heap.size]? = some (.cells #[.int .i64 lo, .int .i64 kn] 87 (0, 0)) ∧ StBlk X (w.heap.size + 1) 0 0 0 0) ⟨((Below.refl _ _).alloc (Nat.le_refl _) _).alloc (by simp) _, new_old (heap_alloc_new _ _), new_1 _ _ _⟩ ?_
  rintro X ⟨k1, k2, k3⟩
  have d1 := (k1.cell (p := ⟨b, off + 1, none⟩) hb).trans c1
  have d2 := (k1.cell (p := ⟨b, off + 2, none⟩) hb).trans c2
  have d3 := (k1.cell (p := ⟨b, off + 3, none⟩) hb).trans c3
  have hwX := blk_lt k3
  have HXX : Hid (Below w.heap.size w X ∧ X.heap[w.heap.size]? = some (.cells #[.int .i64 lo, .int .i64 kn] 87 (0, 0)) ∧ StBlk X (w.heap.size + 1) 0 0 0 0) := ⟨k1, k2, k3⟩
  have hbX : b < X.heap.size := by omega
  clear k1 k2 k3 c0 c1 c2 c3
  refine (pick_any x0 12 X HX.out.1 (by omega) (by omega)).mono ?_
  rintro e X' ⟨rfl, h⟩
  obtain rfl := h.symm
  rw [HE.out]
  clear h
  go_wp2
  refine wp_stN (T := 78) X.heap.size (by rfl) (by rfl) (by rfl) (by exact heap_alloc_new _ _) (by exact Try.sizeStep) (by rfl) (by exact StBlk.one) ?_
  rintro Y hY hF
  have HI0 : Hid (SI w X.heap.size (1 + 1) Y ∧ Below X.heap.size X Y) := by
    have hb1 : Below X.heap.size X Y := ((Below.refl _ X).alloc (Nat.le_refl _) _).trans (hF.below (by omega) (by simp))
    exact ⟨⟨(hb1.block _ hwX).trans HXX.out.2.2, hY, HXX.out.1.trans (hb1.mono HXX.out.1.size), hwX⟩, hb1⟩
  have e1 := (HI0.out.2.cell (p := ⟨b, off + 1, none⟩) hbX).trans d1
  have e2 := (HI0.out.2.cell (p := ⟨b, off + 2, none⟩) hbX).trans d2
  have e3 := (HI0.out.2.cell (p := ⟨b, off + 3, none⟩) hbX).trans d3
  have hwX0 : w.heap.size < X.heap.size := by omega
  have m0 : Y.cell? ⟨w.heap.size, 0, none⟩ = some (.int .i64 lo) := by rw [blk_cell ((HI0.out.2.block _ hwX0).trans HXX.out.2.1)]; rfl
  have m1 : Y.cell? ⟨w.heap.size, 1, none⟩ = some (.int .i64 kn) := by rw [blk_cell ((HI0.out.2.block _ hwX0).trans HXX.out.2.1)]; rfl
  clear hY hF d1 d2 d3 HXX
  go_wp2_with (go_at_call 30; refine (pick_any x1 4 Y HX.out.2.1 (by omega) (by omega)).mono ?_; rintro e Y' ⟨rfl, h⟩; obtain rfl := h.symm; rw [← HY.out.1]; clear h)
  go_quiet ((go_at_call 30; exact Calls.quiet_of_same (HP2.out _)))
  have f2 : (Y.drewN nq).cell? ⟨b, off + 2, none⟩ = some (.int .i64 x2) := e2
  have f3 : (Y.drewN nq).cell? ⟨b, off + 3, none⟩ = some (.int .i64 x3) := e3
  have n0 : (Y.drewN nq).cell? ⟨w.heap.size, 0, none⟩ = some (.int .i64 lo) := m0
  have n1 : (Y.drewN nq).cell? ⟨w.heap.size, 1, none⟩ = some (.int .i64 kn) := m1
  have HI1 : Hid (SI w X.heap.size (1 + 1) (Y.drewN nq)) := ⟨HI0.out.1.res, HI0.out.1.own, below_drewN HI0.out.1.bel _, HI0.out.1.gt⟩
  clear e1 e2 e3 m0 m1 HI0
  generalize Y.drewN nq = Z at *
  go_wp2
  go_quiet ((go_at_call 30; exact Calls.quiet_of_same (HP3.out _)))
  have g2 : (Z.drewN nq).cell? ⟨b, off + 2, none⟩ = some (.int .i64 x2) := f2
  have HI : Hid (SI w X.heap.size (1 + 1) (Z.drewN nq)) := ⟨HI1.out.res, HI1.out.own, below_drewN HI1.out.bel _, HI1.out.gt⟩
  clear f2 f3 n0 n1 HI1 HP2 HP3
  generalize Z.drewN nq = V at *
  obtain ⟨s0, s1, s2, s3, sf⟩ := HI.out.own.facts
  have hlV := blk_lt HI.out.own
  have hbw : ¬ b = X.heap.size := by omega
  clear hwX hwX0
  generalize X.heap.size = sb at *
  go_wp2
  refine wp_ldN (T := 78) sb 0 (by rfl) (by rfl) (by exact StBlk.at ((HI.out.own.a _).b _)) (by exact Try.underlying78) (by rfl) (by exact Try.sizeStep) ?_
  go_wp2
  refine wp_stN (T := 78) (w.heap.size + 1) (by rfl) (by rfl) (by rfl) (by exact ((HI.out.res.other (by have := HI.out.gt; omega)).other (by have := HI.out.gt; omega))) (by exact Try.sizeStep) (by rfl) (by exact StBlk.one) ?_
  rintro U hU hF
  have HU : Hid (StBlk U (w.heap.size + 1) (2) (y1) (lo + y2) (0) ∧ Below w.heap.size w U) := ⟨hU, ((HI.out.bel.setCell (p := ⟨sb, _, none⟩) (by have := HI.out.gt; show w.heap.size ≤ sb; omega) _).setCell (p := ⟨sb, _, none⟩) (by have := HI.out.gt; show w.heap.size ≤ sb; omega) _).trans (hF.below (by omega) (by have := HI.out.bel.size; simpa using this))⟩
  clear hU hF
  go_wp2
  refine bodyPost_ret (results_cell1 (by rfl) (by rfl) HU.out.1.load) rfl ⟨?_, HU.out.2⟩
  rw [HM.out]
  have hh := HY.out
  obtain ⟨z1, z2, z3⟩ := hh
  unfold mkSt
  rw [HE.out, ← z1, ← z2, ← z3]
  simp
  rfl
set_option maxRecDepth 100000 in
set_option maxHeartbeats 1000000 in
theorem step_2 (b off cap : Nat) (x0 x1 x2 x3 i n lo kn : Int) (w : World) (hb : b < w.heap.size) (h4 : Four w b off x0 x1 x2 x3) (h0 : i64B x0) (h1 : i64B x1) (h2 : i64B x2) (h3 : i64B x3) (hk : 0 < kn) (hk' : kn ≤ 16) (hlo : 0 ≤ lo) (hlo' : lo ≤ 16)
    (hr : 0 ≤ i ∧ i < n ∧ n ≤ 32) (he : pickI x0 12 = 2)  :
    Calls Try.prog 51 #[.slice (some ⟨b, off, none⟩) 4 cap, .int .i64 i, .int .i64 n, .agg #[.int .i64 lo, .int .i64 kn]] w fun e w' => Stepped (mkSt x0 x1 x2 x3 i n lo kn) w e w' := by
  obtain ⟨c0, c1, c2, c3⟩ := h4
  obtain ⟨hi, hin, hn⟩ := hr
  have HX : Hid (i64B x0 ∧ i64B x1 ∧ i64B x2 ∧ i64B x3) := ⟨h0, h1, h2, h3⟩
  have HE : Hid (pickI x0 12 = 2) := he
  clear h0 h1 h2 h3 he
  obtain ⟨y1, hy1⟩ : ∃ y, y = pickI x1 4 := ⟨_, rfl⟩
  obtain ⟨y2, hy2⟩ : ∃ y, y = pickI x2 kn := ⟨_, rfl⟩
  obtain ⟨y3, hy3⟩ : ∃ y, y = pickI x3 kn := ⟨_, rfl⟩
  have a3 := pickI_lo x2 hk
  have a4 := pickI_hi x2 hk
  have a5 := pickI_lo x3 hk
  have a6 := pickI_hi x3 hk
  have HY : Hid (y1 = pickI x1 4 ∧ y2 = pickI x2 kn ∧ y3 = pickI x3 kn) := ⟨hy1, hy2, hy3⟩
  rw [← hy2] at a3 a4
  rw [← hy3] at a5 a6
  clear hy1 hy2 hy3
  obtain ⟨fs, hfs⟩ : ∃ fs, fs = mkSt x0 x1 x2 x3 i n lo kn := ⟨_, rfl⟩
  have HM : Hid (fs = mkSt x0 x1 x2 x3 i n lo kn) := hfs
  rw [← hfs]
  clear hfs
  have w2 : IntKind.i64.wrap (lo + y2) = lo + y2 := by rw [IntKind.wrap_i64]; omega
  have w3 : IntKind.i64.wrap (lo + y3) = lo + y3 := by rw [IntKind.wrap_i64]; omega
  have HP2 : Hid (∀ W : World, Calls Try.prog 30 #[.int .i64 x2, .int .i64 kn] W fun e w' => e = .returned (.int .i64 y2) ∧ w' = W) := fun W => by have := pick_any x2 kn W HX.out.2.2.1 (by omega) (by omega); rwa [← HY.out.2.1] at this
  have HP3 : Hid (∀ W : World, Calls Try.prog 30 #[.int .i64 x3, .int .i64 kn] W fun e w' => e = .returned (.int .i64 y3) ∧ w' = W) := fun W => by have := pick_any x3 kn W HX.out.2.2.2 (by omega) (by omega); rwa [← HY.out.2.2] at this
  go_enter Try.func51, Try.ntmps51
  go_wp2_with fail
  refine name_calls (p := fun X => Below w.heap.size w X ∧ X.heap[w.heap.size]? = some (.cells #[.int .i64 lo, .int .i64 kn] 87 (0, 0)) ∧ StBlk X (w.heap.size + 1) 0 0 0 0) ⟨((Below.refl _ _).alloc (Nat.le_refl _) _).alloc (by simp) _, new_old (heap_alloc_new _ _), new_1 _ _ _⟩ ?_
  rintro X ⟨k1, k2, k3⟩
  have d1 := (k1.cell (p := ⟨b, off + 1, none⟩) hb).trans c1
  have d2 := (k1.cell (p := ⟨b, off + 2, none⟩) hb).trans c2
  have d3 := (k1.cell (p := ⟨b, off + 3, none⟩) hb).trans c3
  have hwX := blk_lt k3
  have HXX : Hid (Below w.heap.size w X ∧ X.heap[w.heap.size]? = some (.cells #[.int .i64 lo, .int .i64 kn] 87 (0, 0)) ∧ StBlk X (w.heap.size + 1) 0 0 0 0) := ⟨k1, k2, k3⟩
  have hbX : b < X.heap.size := by omega
  clear k1 k2 k3 c0 c1 c2 c3
  refine (pick_any x0 12 X HX.out.1 (by omega) (by omega)).mono ?_
  rintro e X' ⟨rfl, h⟩
  obtain rfl := h.symm
  rw [HE.out]
  clear h
  go_wp2
  refine wp_stN (T := 78) X.heap.size (by rfl) (by rfl) (by rfl) (by exact heap_alloc_new _ _) (by exact Try.sizeStep) (by rfl) (by exact StBlk.one) ?_
  rintro Y hY hF
  have HI0 : Hid (SI w X.heap.size (1 + 2) Y ∧ Below X.heap.size X Y) := by
    have hb1 : Below X.heap.size X Y := ((Below.refl _ X).alloc (Nat.le_refl _) _).trans (hF.below (by omega) (by simp))
    exact ⟨⟨(hb1.block _ hwX).trans HXX.out.2.2, hY, HXX.out.1.trans (hb1.mono HXX.out.1.size), hwX⟩, hb1⟩
  have e1 := (HI0.out.2.cell (p := ⟨b, off + 1, none⟩) hbX).trans d1
  have e2 := (HI0.out.2.cell (p := ⟨b, off + 2, none⟩) hbX).trans d2
  have e3 := (HI0.out.2.cell (p := ⟨b, off + 3, none⟩) hbX).trans d3
  have hwX0 : w.heap.size < X.heap.size := by omega
  have m0 : Y.cell? ⟨w.heap.size, 0, none⟩ = some (.int .i64 lo) := by rw [blk_cell ((HI0.out.2.block _ hwX0).trans HXX.out.2.1)]; rfl
  have m1 : Y.cell? ⟨w.heap.size, 1, none⟩ = some (.int .i64 kn) := by rw [blk_cell ((HI0.out.2.block _ hwX0).trans HXX.out.2.1)]; rfl
  clear hY hF d1 d2 d3 HXX
  go_wp2_with (go_at_call 30; refine (pick_any x1 4 Y HX.out.2.1 (by omega) (by omega)).mono ?_; rintro e Y' ⟨rfl, h⟩; obtain rfl := h.symm; rw [← HY.out.1]; clear h)
  go_quiet ((go_at_call 30; exact Calls.quiet_of_same (HP2.out _)))
  have f2 : (Y.drewN nq).cell? ⟨b, off + 2, none⟩ = some (.int .i64 x2) := e2
  have f3 : (Y.drewN nq).cell? ⟨b, off + 3, none⟩ = some (.int .i64 x3) := e3
  have n0 : (Y.drewN nq).cell? ⟨w.heap.size, 0, none⟩ = some (.int .i64 lo) := m0
  have n1 : (Y.drewN nq).cell? ⟨w.heap.size, 1, none⟩ = some (.int .i64 kn) := m1
  have HI1 : Hid (SI w X.heap.size (1 + 2) (Y.drewN nq)) := ⟨HI0.out.1.res, HI0.out.1.own, below_drewN HI0.out.1.bel _, HI0.out.1.gt⟩
  clear e1 e2 e3 m0 m1 HI0
  generalize Y.drewN nq = Z at *
  go_wp2
  go_quiet ((go_at_call 30; exact Calls.quiet_of_same (HP3.out _)))
  have g2 : (Z.drewN nq).cell? ⟨b, off + 2, none⟩ = some (.int .i64 x2) := f2
  have HI : Hid (SI w X.heap.size (1 + 2) (Z.drewN nq)) := ⟨HI1.out.res, HI1.out.own, below_drewN HI1.out.bel _, HI1.out.gt⟩
  clear f2 f3 n0 n1 HI1 HP2 HP3
  generalize Z.drewN nq = V at *
  obtain ⟨s0, s1, s2, s3, sf⟩ := HI.out.own.facts
  have hlV := blk_lt HI.out.own
  have hbw : ¬ b = X.heap.size := by omega
  clear hwX hwX0
  generalize X.heap.size = sb at *
  go_wp2
  refine wp_ldN (T := 78) sb 0 (by rfl) (by rfl) (by exact StBlk.at ((HI.out.own.a _).b _)) (by exact Try.underlying78) (by rfl) (by exact Try.sizeStep) ?_
  go_wp2
  refine wp_stN (T := 78) (w.heap.size + 1) (by rfl) (by rfl) (by rfl) (by exact ((HI.out.res.other (by have := HI.out.gt; omega)).other (by have := HI.out.gt; omega))) (by exact Try.sizeStep) (by rfl) (by exact StBlk.one) ?_
  rintro U hU hF
  have HU : Hid (StBlk U (w.heap.size + 1) (3) (lo + y2) (y1) (0) ∧ Below w.heap.size w U) := ⟨hU, ((HI.out.bel.setCell (p := ⟨sb, _, none⟩) (by have := HI.out.gt; show w.heap.size ≤ sb; omega) _).setCell (p := ⟨sb, _, none⟩) (by have := HI.out.gt; show w.heap.size ≤ sb; omega) _).trans (hF.below (by omega) (by have := HI.out.bel.size; simpa using this))⟩
  clear hU hF
  go_wp2
  refine bodyPost_ret (results_cell1 (by rfl) (by rfl) HU.out.1.load) rfl ⟨?_, HU.out.2⟩
  rw [HM.out]
  have hh := HY.out
  obtain ⟨z1, z2, z3⟩ := hh
  unfold mkSt
  rw [HE.out, ← z1, ← z2, ← z3]
  simp
  rfl
set_option maxRecDepth 100000 in
set_option maxHeartbeats 1000000 in
theorem step_3 (b off cap : Nat) (x0 x1 x2 x3 i n lo kn : Int) (w : World) (hb : b < w.heap.size) (h4 : Four w b off x0 x1 x2 x3) (h0 : i64B x0) (h1 : i64B x1) (h2 : i64B x2) (h3 : i64B x3) (hk : 0 < kn) (hk' : kn ≤ 16) (hlo : 0 ≤ lo) (hlo' : lo ≤ 16)
    (hr : 0 ≤ i ∧ i < n ∧ n ≤ 32) (he : pickI x0 12 = 3)  :
    Calls Try.prog 51 #[.slice (some ⟨b, off, none⟩) 4 cap, .int .i64 i, .int .i64 n, .agg #[.int .i64 lo, .int .i64 kn]] w fun e w' => Stepped (mkSt x0 x1 x2 x3 i n lo kn) w e w' := by
  obtain ⟨c0, c1, c2, c3⟩ := h4
  obtain ⟨hi, hin, hn⟩ := hr
  have HX : Hid (i64B x0 ∧ i64B x1 ∧ i64B x2 ∧ i64B x3) := ⟨h0, h1, h2, h3⟩
  have HE : Hid (pickI x0 12 = 3) := he
  clear h0 h1 h2 h3 he
  obtain ⟨y1, hy1⟩ : ∃ y, y = pickI x1 4 := ⟨_, rfl⟩
  obtain ⟨y2, hy2⟩ : ∃ y, y = pickI x2 kn := ⟨_, rfl⟩
  obtain ⟨y3, hy3⟩ : ∃ y, y = pickI x3 kn := ⟨_, rfl⟩
  have a3 := pickI_lo x2 hk
  have a4 := pickI_hi x2 hk
  have a5 := pickI_lo x3 hk
  have a6 := pickI_hi x3 hk
  have HY : Hid (y1 = pickI x1 4 ∧ y2 = pickI x2 kn ∧ y3 = pickI x3 kn) := ⟨hy1, hy2, hy3⟩
  rw [← hy2] at a3 a4
  rw [← hy3] at a5 a6
  clear hy1 hy2 hy3
  obtain ⟨fs, hfs⟩ : ∃ fs, fs = mkSt x0 x1 x2 x3 i n lo kn := ⟨_, rfl⟩
  have HM : Hid (fs = mkSt x0 x1 x2 x3 i n lo kn) := hfs
  rw [← hfs]
  clear hfs
  have w2 : IntKind.i64.wrap (lo + y2) = lo + y2 := by rw [IntKind.wrap_i64]; omega
  have w3 : IntKind.i64.wrap (lo + y3) = lo + y3 := by rw [IntKind.wrap_i64]; omega
  have HP2 : Hid (∀ W : World, Calls Try.prog 30 #[.int .i64 x2, .int .i64 kn] W fun e w' => e = .returned (.int .i64 y2) ∧ w' = W) := fun W => by have := pick_any x2 kn W HX.out.2.2.1 (by omega) (by omega); rwa [← HY.out.2.1] at this
  have HP3 : Hid (∀ W : World, Calls Try.prog 30 #[.int .i64 x3, .int .i64 kn] W fun e w' => e = .returned (.int .i64 y3) ∧ w' = W) := fun W => by have := pick_any x3 kn W HX.out.2.2.2 (by omega) (by omega); rwa [← HY.out.2.2] at this
  go_enter Try.func51, Try.ntmps51
  go_wp2_with fail
  refine name_calls (p := fun X => Below w.heap.size w X ∧ X.heap[w.heap.size]? = some (.cells #[.int .i64 lo, .int .i64 kn] 87 (0, 0)) ∧ StBlk X (w.heap.size + 1) 0 0 0 0) ⟨((Below.refl _ _).alloc (Nat.le_refl _) _).alloc (by simp) _, new_old (heap_alloc_new _ _), new_1 _ _ _⟩ ?_
  rintro X ⟨k1, k2, k3⟩
  have d1 := (k1.cell (p := ⟨b, off + 1, none⟩) hb).trans c1
  have d2 := (k1.cell (p := ⟨b, off + 2, none⟩) hb).trans c2
  have d3 := (k1.cell (p := ⟨b, off + 3, none⟩) hb).trans c3
  have hwX := blk_lt k3
  have HXX : Hid (Below w.heap.size w X ∧ X.heap[w.heap.size]? = some (.cells #[.int .i64 lo, .int .i64 kn] 87 (0, 0)) ∧ StBlk X (w.heap.size + 1) 0 0 0 0) := ⟨k1, k2, k3⟩
  have hbX : b < X.heap.size := by omega
  clear k1 k2 k3 c0 c1 c2 c3
  refine (pick_any x0 12 X HX.out.1 (by omega) (by omega)).mono ?_
  rintro e X' ⟨rfl, h⟩
  obtain rfl := h.symm
  rw [HE.out]
  clear h
  go_wp2
  refine wp_stN (T := 78) X.heap.size (by rfl) (by rfl) (by rfl) (by exact heap_alloc_new _ _) (by exact Try.sizeStep) (by rfl) (by exact StBlk.one) ?_
  rintro Y hY hF
  have HI0 : Hid (SI w X.heap.size (1 + 3) Y ∧ Below X.heap.size X Y) := by
    have hb1 : Below X.heap.size X Y := ((Below.refl _ X).alloc (Nat.le_refl _) _).trans (hF.below (by omega) (by simp))
    exact ⟨⟨(hb1.block _ hwX).trans HXX.out.2.2, hY, HXX.out.1.trans (hb1.mono HXX.out.1.size), hwX⟩, hb1⟩
  have e1 := (HI0.out.2.cell (p := ⟨b, off + 1, none⟩) hbX).trans d1
  have e2 := (HI0.out.2.cell (p := ⟨b, off + 2, none⟩) hbX).trans d2
  have e3 := (HI0.out.2.cell (p := ⟨b, off + 3, none⟩) hbX).trans d3
  have hwX0 : w.heap.size < X.heap.size := by omega
  have m0 : Y.cell? ⟨w.heap.size, 0, none⟩ = some (.int .i64 lo) := by rw [blk_cell ((HI0.out.2.block _ hwX0).trans HXX.out.2.1)]; rfl
  have m1 : Y.cell? ⟨w.heap.size, 1, none⟩ = some (.int .i64 kn) := by rw [blk_cell ((HI0.out.2.block _ hwX0).trans HXX.out.2.1)]; rfl
  clear hY hF d1 d2 d3 HXX
  go_wp2_with (go_at_call 30; refine (pick_any x1 4 Y HX.out.2.1 (by omega) (by omega)).mono ?_; rintro e Y' ⟨rfl, h⟩; obtain rfl := h.symm; rw [← HY.out.1]; clear h)
  go_quiet ((go_at_call 30; exact Calls.quiet_of_same (HP2.out _)))
  have f2 : (Y.drewN nq).cell? ⟨b, off + 2, none⟩ = some (.int .i64 x2) := e2
  have f3 : (Y.drewN nq).cell? ⟨b, off + 3, none⟩ = some (.int .i64 x3) := e3
  have n0 : (Y.drewN nq).cell? ⟨w.heap.size, 0, none⟩ = some (.int .i64 lo) := m0
  have n1 : (Y.drewN nq).cell? ⟨w.heap.size, 1, none⟩ = some (.int .i64 kn) := m1
  have HI1 : Hid (SI w X.heap.size (1 + 3) (Y.drewN nq)) := ⟨HI0.out.1.res, HI0.out.1.own, below_drewN HI0.out.1.bel _, HI0.out.1.gt⟩
  clear e1 e2 e3 m0 m1 HI0
  generalize Y.drewN nq = Z at *
  go_wp2
  go_quiet ((go_at_call 30; exact Calls.quiet_of_same (HP3.out _)))
  have g2 : (Z.drewN nq).cell? ⟨b, off + 2, none⟩ = some (.int .i64 x2) := f2
  have HI : Hid (SI w X.heap.size (1 + 3) (Z.drewN nq)) := ⟨HI1.out.res, HI1.out.own, below_drewN HI1.out.bel _, HI1.out.gt⟩
  clear f2 f3 n0 n1 HI1 HP2 HP3
  generalize Z.drewN nq = V at *
  obtain ⟨s0, s1, s2, s3, sf⟩ := HI.out.own.facts
  have hlV := blk_lt HI.out.own
  have hbw : ¬ b = X.heap.size := by omega
  clear hwX hwX0
  generalize X.heap.size = sb at *
  go_wp2
  refine wp_ldN (T := 78) sb 0 (by rfl) (by rfl) (by exact StBlk.at (HI.out.own.a _)) (by exact Try.underlying78) (by rfl) (by exact Try.sizeStep) ?_
  go_wp2
  refine wp_stN (T := 78) (w.heap.size + 1) (by rfl) (by rfl) (by rfl) (by exact (HI.out.res.other (by have := HI.out.gt; omega))) (by exact Try.sizeStep) (by rfl) (by exact StBlk.one) ?_
  rintro U hU hF
  have HU : Hid (StBlk U (w.heap.size + 1) (4) (lo + y2) (0) (0) ∧ Below w.heap.size w U) := ⟨hU, (HI.out.bel.setCell (p := ⟨sb, _, none⟩) (by have := HI.out.gt; show w.heap.size ≤ sb; omega) _).trans (hF.below (by omega) (by have := HI.out.bel.size; simpa using this))⟩
  clear hU hF
  go_wp2
  refine bodyPost_ret (results_cell1 (by rfl) (by rfl) HU.out.1.load) rfl ⟨?_, HU.out.2⟩
  rw [HM.out]
  have hh := HY.out
  obtain ⟨z1, z2, z3⟩ := hh
  unfold mkSt
  rw [HE.out, ← z1, ← z2, ← z3]
  simp
  rfl
end Go.Proofs.Ytlbmcdoldnajoab
namespace Go.Proofs.Ytlbmcdoldnajoab
open Go.RowKit
attribute [local go_sem ↓] wStS wLdS
set_option maxRecDepth 100000 in
set_option maxHeartbeats 1000000 in
theorem step_4y (b off cap : Nat) (x0 x1 x2 x3 i n lo kn : Int) (w : World) (hb : b < w.heap.size) (h4 : Four w b off x0 x1 x2 x3) (h0 : i64B x0) (h1 : i64B x1) (h2 : i64B x2) (h3 : i64B x3) (hk : 0 < kn) (hk' : kn ≤ 16) (hlo : 0 ≤ lo) (hlo' : lo ≤ 16)
    (hr : 0 ≤ i ∧ i < n ∧ n ≤ 32) (he : pickI x0 12 = 4) (q : lo + pickI x3 kn < lo + pickI x2 kn) :
    Calls Try.prog 51 #[.slice (some ⟨b, off, none⟩) 4 cap, .int .i64 i, .int .i64 n, .agg #[.int .i64 lo, .int .i64 kn]] w fun e w' => Stepped (mkSt x0 x1 x2 x3 i n lo kn) w e w' := by
  obtain ⟨c0, c1, c2, c3⟩ := h4
  obtain ⟨hi, hin, hn⟩ := hr
  have HX : Hid (i64B x0 ∧ i64B x1 ∧ i64B x2 ∧ i64B x3) := ⟨h0, h1, h2, h3⟩
  have HE : Hid (pickI x0 12 = 4) := he
  clear h0 h1 h2 h3 he
  obtain ⟨y1, hy1⟩ : ∃ y, y = pickI x1 4 := ⟨_, rfl⟩
  obtain ⟨y2, hy2⟩ : ∃ y, y = pickI x2 kn := ⟨_, rfl⟩
  obtain ⟨y3, hy3⟩ : ∃ y, y = pickI x3 kn := ⟨_, rfl⟩
  have a3 := pickI_lo x2 hk
  have a4 := pickI_hi x2 hk
  have a5 := pickI_lo x3 hk
  have a6 := pickI_hi x3 hk
  have HY : Hid (y1 = pickI x1 4 ∧ y2 = pickI x2 kn ∧ y3 = pickI x3 kn) := ⟨hy1, hy2, hy3⟩
  rw [← hy2] at a3 a4
  rw [← hy3] at a5 a6
  rw [← hy2, ← hy3] at q
  clear hy1 hy2 hy3
  obtain ⟨fs, hfs⟩ : ∃ fs, fs = mkSt x0 x1 x2 x3 i n lo kn := ⟨_, rfl⟩
  have HM : Hid (fs = mkSt x0 x1 x2 x3 i n lo kn) := hfs
  rw [← hfs]
  clear hfs
  have w2 : IntKind.i64.wrap (lo + y2) = lo + y2 := by rw [IntKind.wrap_i64]; omega
  have w3 : IntKind.i64.wrap (lo + y3) = lo + y3 := by rw [IntKind.wrap_i64]; omega
  have HP2 : Hid (∀ W : World, Calls Try.prog 30 #[.int .i64 x2, .int .i64 kn] W fun e w' => e = .returned (.int .i64 y2) ∧ w' = W) := fun W => by have := pick_any x2 kn W HX.out.2.2.1 (by omega) (by omega); rwa [← HY.out.2.1] at this
  have HP3 : Hid (∀ W : World, Calls Try.prog 30 #[.int .i64 x3, .int .i64 kn] W fun e w' => e = .returned (.int .i64 y3) ∧ w' = W) := fun W => by have := pick_any x3 kn W HX.out.2.2.2 (by omega) (by omega); rwa [← HY.out.2.2] at this
  go_enter Try.func51, Try.ntmps51
  go_wp2_with fail
  refine name_calls (p := fun X => Below w.heap.size w X ∧ X.heap[w.heap.size]? = some (.cells #[.int .i64 lo, .int .i64 kn] 87 (0, 0)) ∧ StBlk X (w.heap.size + 1) 0 0 0 0) ⟨((Below.refl _ _).alloc (Nat.le_refl _) _).alloc (by simp) _, new_old (heap_alloc_new _ _), new_1 _ _ _⟩ ?_
  rintro X ⟨k1, k2, k3⟩
  have d1 := (k1.cell (p := ⟨b, off + 1, none⟩) hb).trans c1
  have d2 := (k1.cell (p := ⟨b, off + 2, none⟩) hb).trans c2
  have d3 := (k1.cell (p := ⟨b, off + 3, none⟩) hb).trans c3
  have hwX := blk_lt k3
  have HXX : Hid (Below w.heap.size w X ∧ X.heap[w.heap.size]? = some (.cells #[.int .i64 lo, .int .i64 kn] 87 (0, 0)) ∧ StBlk X (w.heap.size + 1) 0 0 0 0) := ⟨k1, k2, k3⟩
  have hbX : b < X.heap.size := by omega
  clear k1 k2 k3 c0 c1 c2 c3
  refine (pick_any x0 12 X HX.out.1 (by omega) (by omega)).mono ?_
  rintro e X' ⟨rfl, h⟩
  obtain rfl := h.symm
  rw [HE.out]
  clear h
  go_wp2
  refine wp_stN (T := 78) X.heap.size (by rfl) (by rfl) (by rfl) (by exact heap_alloc_new _ _) (by exact Try.sizeStep) (by rfl) (by exact StBlk.one) ?_
  rintro Y hY hF
  have HI0 : Hid (SI w X.heap.size (1 + 4) Y ∧ Below X.heap.size X Y) := by
    have hb1 : Below X.heap.size X Y := ((Below.refl _ X).alloc (Nat.le_refl _) _).trans (hF.below (by omega) (by simp))
    exact ⟨⟨(hb1.block _ hwX).trans HXX.out.2.2, hY, HXX.out.1.trans (hb1.mono HXX.out.1.size), hwX⟩, hb1⟩
  have e1 := (HI0.out.2.cell (p := ⟨b, off + 1, none⟩) hbX).trans d1
  have e2 := (HI0.out.2.cell (p := ⟨b, off + 2, none⟩) hbX).trans d2
  have e3 := (HI0.out.2.cell (p := ⟨b, off + 3, none⟩) hbX).trans d3
  have hwX0 : w.heap.size < X.heap.size := by omega
  have m0 : Y.cell? ⟨w.heap.size, 0, none⟩ = some (.int .i64 lo) := by rw [blk_cell ((HI0.out.2.block _ hwX0).trans HXX.out.2.1)]; rfl
  have m1 : Y.cell? ⟨w.heap.size, 1, none⟩ = some (.int .i64 kn) := by rw [blk_cell ((HI0.out.2.block _ hwX0).trans HXX.out.2.1)]; rfl
  clear hY hF d1 d2 d3 HXX
  go_wp2_with (go_at_call 30; refine (pick_any x1 4 Y HX.out.2.1 (by omega) (by omega)).mono ?_; rintro e Y' ⟨rfl, h⟩; obtain rfl := h.symm; rw [← HY.out.1]; clear h)
  go_quiet ((go_at_call 30; exact Calls.quiet_of_same (HP2.out _)))
  have f2 : (Y.drewN nq).cell? ⟨b, off + 2, none⟩ = some (.int .i64 x2) := e2
  have f3 : (Y.drewN nq).cell? ⟨b, off + 3, none⟩ = some (.int .i64 x3) := e3
  have n0 : (Y.drewN nq).cell? ⟨w.heap.size, 0, none⟩ = some (.int .i64 lo) := m0
  have n1 : (Y.drewN nq).cell? ⟨w.heap.size, 1, none⟩ = some (.int .i64 kn) := m1
  have HI1 : Hid (SI w X.heap.size (1 + 4) (Y.drewN nq)) := ⟨HI0.out.1.res, HI0.out.1.own, below_drewN HI0.out.1.bel _, HI0.out.1.gt⟩
  clear e1 e2 e3 m0 m1 HI0
  generalize Y.drewN nq = Z at *
  go_wp2
  go_quiet ((go_at_call 30; exact Calls.quiet_of_same (HP3.out _)))
  have g2 : (Z.drewN nq).cell? ⟨b, off + 2, none⟩ = some (.int .i64 x2) := f2
  have HI : Hid (SI w X.heap.size (1 + 4) (Z.drewN nq)) := ⟨HI1.out.res, HI1.out.own, below_drewN HI1.out.bel _, HI1.out.gt⟩
  clear f2 f3 n0 n1 HI1 HP2 HP3
  generalize Z.drewN nq = V at *
  obtain ⟨s0, s1, s2, s3, sf⟩ := HI.out.own.facts
  have hlV := blk_lt HI.out.own
  have hbw : ¬ b = X.heap.size := by omega
  clear hwX hwX0
  generalize X.heap.size = sb at *
  go_wp2
  refine wp_ldN (T := 78) sb 0 (by rfl) (by rfl) (by exact StBlk.at (((((HI.out.own.a _).b _).c _).b _).c _)) (by exact Try.underlying78) (by rfl) (by exact Try.sizeStep) ?_
  go_wp2
  refine wp_stN (T := 78) (w.heap.size + 1) (by rfl) (by rfl) (by rfl) (by exact (((((HI.out.res.other (by have := HI.out.gt; omega)).other (by have := HI.out.gt; omega)).other (by have := HI.out.gt; omega)).other (by have := HI.out.gt; omega)).other (by have := HI.out.gt; omega))) (by exact Try.sizeStep) (by rfl) (by exact StBlk.one) ?_
  rintro U hU hF
  have HU : Hid (StBlk U (w.heap.size + 1) (5) (y1) (lo + y3) (lo + y2) ∧ Below w.heap.size w U) := ⟨hU, (((((HI.out.bel.setCell (p := ⟨sb, _, none⟩) (by have := HI.out.gt; show w.heap.size ≤ sb; omega) _).setCell (p := ⟨sb, _, none⟩) (by have := HI.out.gt; show w.heap.size ≤ sb; omega) _).setCell (p := ⟨sb, _, none⟩) (by have := HI.out.gt; show w.heap.size ≤ sb; omega) _).setCell (p := ⟨sb, _, none⟩) (by have := HI.out.gt; show w.heap.size ≤ sb; omega) _).setCell (p := ⟨sb, _, none⟩) (by have := HI.out.gt; show w.heap.size ≤ sb; omega) _).trans (hF.below (by omega) (by have := HI.out.bel.size; simpa using this))⟩
  clear hU hF
  go_wp2
  refine bodyPost_ret (results_cell1 (by rfl) (by rfl) HU.out.1.load) rfl ⟨?_, HU.out.2⟩
  rw [HM.out]
  have hh := HY.out
  obtain ⟨z1, z2, z3⟩ := hh
  unfold mkSt
  rw [HE.out, ← z1, ← z2, ← z3]
  simp [q]
  rfl
set_option maxRecDepth 100000 in
set_option maxHeartbeats 1000000 in
theorem step_4n (b off cap : Nat) (x0 x1 x2 x3 i n lo kn : Int) (w : World) (hb : b < w.heap.size) (h4 : Four w b off x0 x1 x2 x3) (h0 : i64B x0) (h1 : i64B x1) (h2 : i64B x2) (h3 : i64B x3) (hk : 0 < kn) (hk' : kn ≤ 16) (hlo : 0 ≤ lo) (hlo' : lo ≤ 16)
    (hr : 0 ≤ i ∧ i < n ∧ n ≤ 32) (he : pickI x0 12 = 4) (q : ¬ lo + pickI x3 kn < lo + pickI x2 kn) :
    Calls Try.prog 51 #[.slice (some ⟨b, off, none⟩) 4 cap, .int .i64 i, .int .i64 n, .agg #[.int .i64 lo, .int .i64 kn]] w fun e w' => Stepped (mkSt x0 x1 x2 x3 i n lo kn) w e w' := by
  obtain ⟨c0, c1, c2, c3⟩ := h4
  obtain ⟨hi, hin, hn⟩ := hr
  have HX : Hid (i64B x0 ∧ i64B x1 ∧ i64B x2 ∧ i64B x3) := ⟨h0, h1, h2, h3⟩
  have HE : Hid (pickI x0 12 = 4) := he
  clear h0 h1 h2 h3 he
  obtain ⟨y1, hy1⟩ : ∃ y, y = pickI x1 4 := ⟨_, rfl⟩
  obtain ⟨y2, hy2⟩ : ∃ y, y = pickI x2 kn := ⟨_, rfl⟩
  obtain ⟨y3, hy3⟩ : ∃ y, y = pickI x3 kn := ⟨_, rfl⟩
  have a3 := pickI_lo x2 hk
  have a4 := pickI_hi x2 hk
  have a5 := pickI_lo x3 hk
  have a6 := pickI_hi x3 hk
  have HY : Hid (y1 = pickI x1 4 ∧ y2 = pickI x2 kn ∧ y3 = pickI x3 kn) := ⟨hy1, hy2, hy3⟩
  rw [← hy2] at a3 a4
  rw [← hy3] at a5 a6
  rw [← hy2, ← hy3] at q
  clear hy1 hy2 hy3
  obtain ⟨fs, hfs⟩ : ∃ fs, fs = mkSt x0 x1 x2 x3 i n lo kn := ⟨_, rfl⟩
  have HM : Hid (fs = mkSt x0 x1 x2 x3 i n lo kn) := hfs
  rw [← hfs]
  clear hfs
  have w2 : IntKind.i64.wrap (lo + y2) = lo + y2 := by rw [IntKind.wrap_i64]; omega
  have w3 : IntKind.i64.wrap (lo + y3) = lo + y3 := by rw [IntKind.wrap_i64]; omega
  have HP2 : Hid (∀ W : World, Calls Try.prog 30 #[.int .i64 x2, .int .i64 kn] W fun e w' => e = .returned (.int .i64 y2) ∧ w' = W) := fun W => by have := pick_any x2 kn W HX.out.2.2.1 (by omega) (by omega); rwa [← HY.out.2.1] at this
  have HP3 : Hid (∀ W : World, Calls Try.prog 30 #[.int .i64 x3, .int .i64 kn] W fun e w' => e = .returned (.int .i64 y3) ∧ w' = W) := fun W => by have := pick_any x3 kn W HX.out.2.2.2 (by omega) (by omega); rwa [← HY.out.2.2] at this
  go_enter Try.func51, Try.ntmps51
  go_wp2_with fail
  refine name_calls (p := fun X => Below w.heap.size w X ∧ X.heap[w.heap.size]? = some (.cells #[.int .i64 lo, .int .i64 kn] 87 (0, 0)) ∧ StBlk X (w.heap.size + 1) 0 0 0 0) ⟨((Below.refl _ _).alloc (Nat.le_refl _) _).alloc (by simp) _, new_old (heap_alloc_new _ _), new_1 _ _ _⟩ ?_
  rintro X ⟨k1, k2, k3⟩
  have d1 := (k1.cell (p := ⟨b, off + 1, none⟩) hb).trans c1
  have d2 := (k1.cell (p := ⟨b, off + 2, none⟩) hb).trans c2
  have d3 := (k1.cell (p := ⟨b, off + 3, none⟩) hb).trans c3
  have hwX := blk_lt k3
  have HXX : Hid (Below w.heap.size w X ∧ X.heap[w.heap.size]? = some (.cells #[.int .i64 lo, .int .i64 kn] 87 (0, 0)) ∧ StBlk X (w.heap.size + 1) 0 0 0 0) := ⟨k1, k2, k3⟩
  have hbX : b < X.heap.size := by omega
  clear k1 k2 k3 c0 c1 c2 c3
  refine (pick_any x0 12 X HX.out.1 (by omega) (by omega)).mono ?_
  rintro e X' ⟨rfl, h⟩
  obtain rfl := h.symm
  rw [HE.out]
  clear h
  go_wp2
  refine wp_stN (T := 78) X.heap.size (by rfl) (by rfl) (by rfl) (by exact heap_alloc_new _ _) (by exact Try.sizeStep) (by rfl) (by exact StBlk.one) ?_
  rintro Y hY hF
  have HI0 : Hid (SI w X.heap.size (1 + 4) Y ∧ Below X.heap.size X Y) := by
    have hb1 : Below X.heap.size X Y := ((Below.refl _ X).alloc (Nat.le_refl _) _).trans (hF.below (by omega) (by simp))
    exact ⟨⟨(hb1.block _ hwX).trans HXX.out.2.2, hY, HXX.out.1.trans (hb1.mono HXX.out.1.size), hwX⟩, hb1⟩
  have e1 := (HI0.out.2.cell (p := ⟨b, off + 1, none⟩) hbX).trans d1
  have e2 := (HI0.out.2.cell (p := ⟨b, off + 2, none⟩) hbX).trans d2
  have e3 := (HI0.out.2.cell (p := ⟨b, off + 3, none⟩) hbX).trans d3
  have hwX0 : w.heap.size < X.heap.size := by omega
  have m0 : Y.cell? ⟨w.heap.size, 0, none⟩ = some (.int .i64 lo) := by rw [blk_cell ((HI0.out.2.block _ hwX0).trans HXX.out.2.1)]; rfl
  have m1 : Y.cell? ⟨w.heap.size, 1, none⟩ = some (.int .i64 kn) := by rw [blk_cell ((HI0.out.2.block _ hwX0).trans HXX.out.2.1)]; rfl
  clear hY hF d1 d2 d3 HXX
  go_wp2_with (go_at_call 30; refine (pick_any x1 4 Y HX.out.2.1 (by omega) (by omega)).mono ?_; rintro e Y' ⟨rfl, h⟩; obtain rfl := h.symm; rw [← HY.out.1]; clear h)
  go_quiet ((go_at_call 30; exact Calls.quiet_of_same (HP2.out _)))
  have f2 : (Y.drewN nq).cell? ⟨b, off + 2, none⟩ = some (.int .i64 x2) := e2
  have f3 : (Y.drewN nq).cell? ⟨b, off + 3, none⟩ = some (.int .i64 x3) := e3
  have n0 : (Y.drewN nq).cell? ⟨w.heap.size, 0, none⟩ = some (.int .i64 lo) := m0
  have n1 : (Y.drewN nq).cell? ⟨w.heap.size, 1, none⟩ = some (.int .i64 kn) := m1
  have HI1 : Hid (SI w X.heap.size (1 + 4) (Y.drewN nq)) := ⟨HI0.out.1.res, HI0.out.1.own, below_drewN HI0.out.1.bel _, HI0.out.1.gt⟩
  clear e1 e2 e3 m0 m1 HI0
  generalize Y.drewN nq = Z at *
  go_wp2
  go_quiet ((go_at_call 30; exact Calls.quiet_of_same (HP3.out _)))
  have g2 : (Z.drewN nq).cell? ⟨b, off + 2, none⟩ = some (.int .i64 x2) := f2
  have HI : Hid (SI w X.heap.size (1 + 4) (Z.drewN nq)) := ⟨HI1.out.res, HI1.out.own, below_drewN HI1.out.bel _, HI1.out.gt⟩
  clear f2 f3 n0 n1 HI1 HP2 HP3
  generalize Z.drewN nq = V at *
  obtain ⟨s0, s1, s2, s3, sf⟩ := HI.out.own.facts
  have hlV := blk_lt HI.out.own
  have hbw : ¬ b = X.heap.size := by omega
  clear hwX hwX0
  generalize X.heap.size = sb at *
  go_wp2
  refine wp_ldN (T := 78) sb 0 (by rfl) (by rfl) (by exact StBlk.at (((HI.out.own.a _).b _).c _)) (by exact Try.underlying78) (by rfl) (by exact Try.sizeStep) ?_
  go_wp2
  refine wp_stN (T := 78) (w.heap.size + 1) (by rfl) (by rfl) (by rfl) (by exact (((HI.out.res.other (by have := HI.out.gt; omega)).other (by have := HI.out.gt; omega)).other (by have := HI.out.gt; omega))) (by exact Try.sizeStep) (by rfl) (by exact StBlk.one) ?_
  rintro U hU hF
  have HU : Hid (StBlk U (w.heap.size + 1) (5) (y1) (lo + y2) (lo + y3) ∧ Below w.heap.size w U) := ⟨hU, (((HI.out.bel.setCell (p := ⟨sb, _, none⟩) (by have := HI.out.gt; show w.heap.size ≤ sb; omega) _).setCell (p := ⟨sb, _, none⟩) (by have := HI.out.gt; show w.heap.size ≤ sb; omega) _).setCell (p := ⟨sb, _, none⟩) (by have := HI.out.gt; show w.heap.size ≤ sb; omega) _).trans (hF.below (by omega) (by have := HI.out.bel.size; simpa using this))⟩
  clear hU hF
  go_wp2
  refine bodyPost_ret (results_cell1 (by rfl) (by rfl) HU.out.1.load) rfl ⟨?_, HU.out.2⟩
  rw [HM.out]
  have hh := HY.out
  obtain ⟨z1, z2, z3⟩ := hh
  unfold mkSt
  rw [HE.out, ← z1, ← z2, ← z3]
  simp
  rw [if_neg (by omega)]
  rfl
set_option maxRecDepth 100000 in
set_option maxHeartbeats 1000000 in
theorem step_5y (b off cap : Nat) (x0 x1 x2 x3 i n lo kn : Int) (w : World) (hb : b < w.heap.size) (h4 : Four w b off x0 x1 x2 x3) (h0 : i64B x0) (h1 : i64B x1) (h2 : i64B x2) (h3 : i64B x3) (hk : 0 < kn) (hk' : kn ≤ 16) (hlo : 0 ≤ lo) (hlo' : lo ≤ 16)
    (hr : 0 ≤ i ∧ i < n ∧ n ≤ 32) (he : pickI x0 12 = 5) (q : lo + pickI x3 kn < lo + pickI x2 kn) :
    Calls Try.prog 51 #[.slice (some ⟨b, off, none⟩) 4 cap, .int .i64 i, .int .i64 n, .agg #[.int .i64 lo, .int .i64 kn]] w fun e w' => Stepped (mkSt x0 x1 x2 x3 i n lo kn) w e w' := by
  obtain ⟨c0, c1, c2, c3⟩ := h4
  obtain ⟨hi, hin, hn⟩ := hr
  have HX : Hid (i64B x0 ∧ i64B x1 ∧ i64B x2 ∧ i64B x3) := ⟨h0, h1, h2, h3⟩
  have HE : Hid (pickI x0 12 = 5) := he
  clear h0 h1 h2 h3 he
  obtain ⟨y1, hy1⟩ : ∃ y, y = pickI x1 4 := ⟨_, rfl⟩
  obtain ⟨y2, hy2⟩ : ∃ y, y = pickI x2 kn := ⟨_, rfl⟩
  obtain ⟨y3, hy3⟩ : ∃ y, y = pickI x3 kn := ⟨_, rfl⟩
  have a3 := pickI_lo x2 hk
  have a4 := pickI_hi x2 hk
  have a5 := pickI_lo x3 hk
  have a6 := pickI_hi x3 hk
  have HY : Hid (y1 = pickI x1 4 ∧ y2 = pickI x2 kn ∧ y3 = pickI x3 kn) := ⟨hy1, hy2, hy3⟩
  rw [← hy2] at a3 a4
  rw [← hy3] at a5 a6
  rw [← hy2, ← hy3] at q
  clear hy1 hy2 hy3
  obtain ⟨fs, hfs⟩ : ∃ fs, fs = mkSt x0 x1 x2 x3 i n lo kn := ⟨_, rfl⟩
  have HM : Hid (fs = mkSt x0 x1 x2 x3 i n lo kn) := hfs
  rw [← hfs]
  clear hfs
  have w2 : IntKind.i64.wrap (lo + y2) = lo + y2 := by rw [IntKind.wrap_i64]; omega
  have w3 : IntKind.i64.wrap (lo + y3) = lo + y3 := by rw [IntKind.wrap_i64]; omega
  have HP2 : Hid (∀ W : World, Calls Try.prog 30 #[.int .i64 x2, .int .i64 kn] W fun e w' => e = .returned (.int .i64 y2) ∧ w' = W) := fun W => by have := pick_any x2 kn W HX.out.2.2.1 (by omega) (by omega); rwa [← HY.out.2.1] at this
  have HP3 : Hid (∀ W : World, Calls Try.prog 30 #[.int .i64 x3, .int .i64 kn] W fun e w' => e = .returned (.int .i64 y3) ∧ w' = W) := fun W => by have := pick_any x3 kn W HX.out.2.2.2 (by omega) (by omega); rwa [← HY.out.2.2] at this
  go_enter Try.func51, Try.ntmps51
  go_wp2_with fail
  refine name_calls (p := fun X => Below w.heap.size w X ∧ X.heap[w.heap.size]? = some (.cells #[.int .i64 lo, .int .i64 kn] 87 (0, 0)) ∧ StBlk X (w.heap.size + 1) 0 0 0 0) ⟨((Below.refl _ _).alloc (Nat.le_refl _) _).alloc (by simp) _, new_old (heap_alloc_new _ _), new_1 _ _ _⟩ ?_
  rintro X ⟨k1, k2, k3⟩
  have d1 := (k1.cell (p := ⟨b, off + 1, none⟩) hb).trans c1
  have d2 := (k1.cell (p := ⟨b, off + 2, none⟩) hb).trans c2
  have d3 := (k1.cell (p := ⟨b, off + 3, none⟩) hb).trans c3
  have hwX := blk_lt k3
  have HXX : Hid (Below w.heap.size w X ∧ X.heap[w.heap.size]? = some (.cells #[.int .i64 lo, .int .i64 kn] 87 (0, 0)) ∧ StBlk X (w.heap.size + 1) 0 0 0 0) := ⟨k1, k2, k3⟩
  have hbX : b < X.heap.size := by omega
  clear k1 k2 k3 c0 c1 c2 c3
  refine (pick_any x0 12 X HX.out.1 (by omega) (by omega)).mono ?_
  rintro e X' ⟨rfl, h⟩
  obtain rfl := h.symm
  rw [HE.out]
  clear h
  go_wp2
  refine wp_stN (T := 78) X.heap.size (by rfl) (by rfl) (by rfl) (by exact heap_alloc_new _ _) (by exact Try.sizeStep) (by rfl) (by exact StBlk.one) ?_
  rintro Y hY hF
  have HI0 : Hid (SI w X.heap.size (1 + 5) Y ∧ Below X.heap.size X Y) := by
    have hb1 : Below X.heap.size X Y := ((Below.refl _ X).alloc (Nat.le_refl _) _).trans (hF.below (by omega) (by simp))
    exact ⟨⟨(hb1.block _ hwX).trans HXX.out.2.2, hY, HXX.out.1.trans (hb1.mono HXX.out.1.size), hwX⟩, hb1⟩
  have e1 := (HI0.out.2.cell (p := ⟨b, off + 1, none⟩) hbX).trans d1
  have e2 := (HI0.out.2.cell (p := ⟨b, off + 2, none⟩) hbX).trans d2
  have e3 := (HI0.out.2.cell (p := ⟨b, off + 3, none⟩) hbX).trans d3
  have hwX0 : w.heap.size < X.heap.size := by omega
  have m0 : Y.cell? ⟨w.heap.size, 0, none⟩ = some (.int .i64 lo) := by rw [blk_cell ((HI0.out.2.block _ hwX0).trans HXX.out.2.1)]; rfl
  have m1 : Y.cell? ⟨w.heap.size, 1, none⟩ = some (.int .i64 kn) := by rw [blk_cell ((HI0.out.2.block _ hwX0).trans HXX.out.2.1)]; rfl
  clear hY hF d1 d2 d3 HXX
  go_wp2_with (go_at_call 30; refine (pick_any x1 4 Y HX.out.2.1 (by omega) (by omega)).mono ?_; rintro e Y' ⟨rfl, h⟩; obtain rfl := h.symm; rw [← HY.out.1]; clear h)
  go_quiet ((go_at_call 30; exact Calls.quiet_of_same (HP2.out _)))
  have f2 : (Y.drewN nq).cell? ⟨b, off + 2, none⟩ = some (.int .i64 x2) := e2
  have f3 : (Y.drewN nq).cell? ⟨b, off + 3, none⟩ = some (.int .i64 x3) := e3
  have n0 : (Y.drewN nq).cell? ⟨w.heap.size, 0, none⟩ = some (.int .i64 lo) := m0
  have n1 : (Y.drewN nq).cell? ⟨w.heap.size, 1, none⟩ = some (.int .i64 kn) := m1
  have HI1 : Hid (SI w X.heap.size (1 + 5) (Y.drewN nq)) := ⟨HI0.out.1.res, HI0.out.1.own, below_drewN HI0.out.1.bel _, HI0.out.1.gt⟩
  clear e1 e2 e3 m0 m1 HI0
  generalize Y.drewN nq = Z at *
  go_wp2
  go_quiet ((go_at_call 30; exact Calls.quiet_of_same (HP3.out _)))
  have g2 : (Z.drewN nq).cell? ⟨b, off + 2, none⟩ = some (.int .i64 x2) := f2
  have HI : Hid (SI w X.heap.size (1 + 5) (Z.drewN nq)) := ⟨HI1.out.res, HI1.out.own, below_drewN HI1.out.bel _, HI1.out.gt⟩
  clear f2 f3 n0 n1 HI1 HP2 HP3
  generalize Z.drewN nq = V at *
  obtain ⟨s0, s1, s2, s3, sf⟩ := HI.out.own.facts
  have hlV := blk_lt HI.out.own
  have hbw : ¬ b = X.heap.size := by omega
  clear hwX hwX0
  generalize X.heap.size = sb at *
  go_wp2
  refine wp_ldN (T := 78) sb 0 (by rfl) (by rfl) (by exact StBlk.at (((((HI.out.own.a _).b _).c _).b _).c _)) (by exact Try.underlying78) (by rfl) (by exact Try.sizeStep) ?_
  go_wp2
  refine wp_stN (T := 78) (w.heap.size + 1) (by rfl) (by rfl) (by rfl) (by exact (((((HI.out.res.other (by have := HI.out.gt; omega)).other (by have := HI.out.gt; omega)).other (by have := HI.out.gt; omega)).other (by have := HI.out.gt; omega)).other (by have := HI.out.gt; omega))) (by exact Try.sizeStep) (by rfl) (by exact StBlk.one) ?_
  rintro U hU hF
  have HU : Hid (StBlk U (w.heap.size + 1) (6) (y1) (lo + y3) (lo + y2) ∧ Below w.heap.size w U) := ⟨hU, (((((HI.out.bel.setCell (p := ⟨sb, _, none⟩) (by have := HI.out.gt; show w.heap.size ≤ sb; omega) _).setCell (p := ⟨sb, _, none⟩) (by have := HI.out.gt; show w.heap.size ≤ sb; omega) _).setCell (p := ⟨sb, _, none⟩) (by have := HI.out.gt; show w.heap.size ≤ sb; omega) _).setCell (p := ⟨sb, _, none⟩) (by have := HI.out.gt; show w.heap.size ≤ sb; omega) _).setCell (p := ⟨sb, _, none⟩) (by have := HI.out.gt; show w.heap.size ≤ sb; omega) _).trans (hF.below (by omega) (by have := HI.out.bel.size; simpa using this))⟩
  clear hU hF
  go_wp2
  refine bodyPost_ret (results_cell1 (by rfl) (by rfl) HU.out.1.load) rfl ⟨?_, HU.out.2⟩
  rw [HM.out]
  have hh := HY.out
  obtain ⟨z1, z2, z3⟩ := hh
  unfold mkSt
  rw [HE.out, ← z1, ← z2, ← z3]
  simp [q]
  rfl
set_option maxRecDepth 100000 in
set_option maxHeartbeats 1000000 in
theorem step_5n (b off cap : Nat) (x0 x1 x2 x3 i n lo kn : Int) (w : World) (hb : b < w.heap.size) (h4 : Four w b off x0 x1 x2 x3) (h0 : i64B x0) (h1 : i64B x1) (h2 : i64B x2) (h3 : i64B x3) (hk : 0 < kn) (hk' : kn ≤ 16) (hlo : 0 ≤ lo) (hlo' : lo ≤ 16)
    (hr : 0 ≤ i ∧ i < n ∧ n ≤ 32) (he : pickI x0 12 = 5) (q : ¬ lo + pickI x3 kn < lo + pickI x2 kn) :
    Calls Try.prog 51 #[.slice (some ⟨b, off, none⟩) 4 cap, .int .i64 i, .int .i64 n, .agg #[.int .i64 lo, .int .i64 kn]] w fun e w' => Stepped (mkSt x0 x1 x2 x3 i n lo kn) w e w' := by
  obtain ⟨c0, c1, c2, c3⟩ := h4
  obtain ⟨hi, hin, hn⟩ := hr
  have HX : Hid (i64B x0 ∧ i64B x1 ∧ i64B x2 ∧ i64B x3) := ⟨h0, h1, h2, h3⟩
  have HE : Hid (pickI x0 12 = 5) := he
  clear h0 h1 h2 h3 he
  obtain ⟨y1, hy1⟩ : ∃ y, y = pickI x1 4 := ⟨_, rfl⟩
  obtain ⟨y2, hy2⟩ : ∃ y, y = pickI x2 kn := ⟨_, rfl⟩
  obtain ⟨y3, hy3⟩ : ∃ y, y = pickI x3 kn := ⟨_, rfl⟩
  have a3 := pickI_lo x2 hk
  have a4 := pickI_hi x2 hk
  have a5 := pickI_lo x3 hk
  have a6 := pickI_hi x3 hk
  have HY : Hid (y1 = pickI x1 4 ∧ y2 = pickI x2 kn ∧ y3 = pickI x3 kn) := ⟨hy1, hy2, hy3⟩
  rw [← hy2] at a3 a4
  rw [← hy3] at a5 a6
  rw [← hy2, ← hy3] at q
  clear hy1 hy2 hy3
  obtain ⟨fs, hfs⟩ : ∃ fs, fs = mkSt x0 x1 x2 x3 i n lo kn := ⟨_, rfl⟩
  have HM : Hid (fs = mkSt x0 x1 x2 x3 i n lo kn) := hfs
  rw [← hfs]
  clear hfs
  have w2 : IntKind.i64.wrap (lo + y2) = lo + y2 := by rw [IntKind.wrap_i64]; omega
  have w3 : IntKind.i64.wrap (lo + y3) = lo + y3 := by rw [IntKind.wrap_i64]; omega
  have HP2 : Hid (∀ W : World, Calls Try.prog 30 #[.int .i64 x2, .int .i64 kn] W fun e w' => e = .returned (.int .i64 y2) ∧ w' = W) := fun W => by have := pick_any x2 kn W HX.out.2.2.1 (by omega) (by omega); rwa [← HY.out.2.1] at this
  have HP3 : Hid (∀ W : World, Calls Try.prog 30 #[.int .i64 x3, .int .i64 kn] W fun e w' => e = .returned (.int .i64 y3) ∧ w' = W) := fun W => by have := pick_any x3 kn W HX.out.2.2.2 (by omega) (by omega); rwa [← HY.out.2.2] at this
  go_enter Try.func51, Try.ntmps51
  go_wp2_with fail
  refine name_calls (p := fun X => Below w.heap.size w X ∧ X.heap[w.heap.size]? = some (.cells #[.int .i64 lo, .int .i64 kn] 87 (0, 0)) ∧ StBlk X (w.heap.size + 1) 0 0 0 0) ⟨((Below.refl _ _).alloc (Nat.le_refl _) _).alloc (by simp) _, new_old (heap_alloc_new _ _), new_1 _ _ _⟩ ?_
  rintro X ⟨k1, k2, k3⟩
  have d1 := (k1.cell (p := ⟨b, off + 1, none⟩) hb).trans c1
  have d2 := (k1.cell (p := ⟨b, off + 2, none⟩) hb).trans c2
  have d3 := (k1.cell (p := ⟨b, off + 3, none⟩) hb).trans c3
  have hwX := blk_lt k3
  have HXX : Hid (Below w.heap.size w X ∧ X.heap[w.heap.size]? = some (.cells #[.int .i64 lo, .int .i64 kn] 87 (0, 0)) ∧ StBlk X (w.heap.size + 1) 0 0 0 0) := ⟨k1, k2, k3⟩
  have hbX : b < X.heap.size := by omega
  clear k1 k2 k3 c0 c1 c2 c3
  refine (pick_any x0 12 X HX.out.1 (by omega) (by omega)).mono ?_
  rintro e X' ⟨rfl, h⟩
  obtain rfl := h.symm
  rw [HE.out]
  clear h
  go_wp2
  refine wp_stN (T := 78) X.heap.size (by rfl) (by rfl) (by rfl) (by exact heap_alloc_new _ _) (by exact Try.sizeStep) (by rfl) (by exact StBlk.one) ?_
  rintro Y hY hF
  have HI0 : Hid (SI w X.heap.size (1 + 5) Y ∧ Below X.heap.size X Y) := by
    have hb1 : Below X.heap.size X Y := ((Below.refl _ X).alloc (Nat.le_refl _) _).trans (hF.below (by omega) (by simp))
    exact ⟨⟨(hb1.block _ hwX).trans HXX.out.2.2, hY, HXX.out.1.trans (hb1.mono HXX.out.1.size), hwX⟩, hb1⟩
  have e1 := (HI0.out.2.cell (p := ⟨b, off + 1, none⟩) hbX).trans d1
  have e2 := (HI0.out.2.cell (p := ⟨b, off + 2, none⟩) hbX).trans d2
  have e3 := (HI0.out.2.cell (p := ⟨b, off + 3, none⟩) hbX).trans d3
  have hwX0 : w.heap.size < X.heap.size := by omega
  have m0 : Y.cell? ⟨w.heap.size, 0, none⟩ = some (.int .i64 lo) := by rw [blk_cell ((HI0.out.2.block _ hwX0).trans HXX.out.2.1)]; rfl
  have m1 : Y.cell? ⟨w.heap.size, 1, none⟩ = some (.int .i64 kn) := by rw [blk_cell ((HI0.out.2.block _ hwX0).trans HXX.out.2.1)]; rfl
  clear hY hF d1 d2 d3 HXX
  go_wp2_with (go_at_call 30; refine (pick_any x1 4 Y HX.out.2.1 (by omega) (by omega)).mono ?_; rintro e Y' ⟨rfl, h⟩; obtain rfl := h.symm; rw [← HY.out.1]; clear h)
  go_quiet ((go_at_call 30; exact Calls.quiet_of_same (HP2.out _)))
  have f2 : (Y.drewN nq).cell? ⟨b, off + 2, none⟩ = some (.int .i64 x2) := e2
  have f3 : (Y.drewN nq).cell? ⟨b, off + 3, none⟩ = some (.int .i64 x3) := e3
  have n0 : (Y.drewN nq).cell? ⟨w.heap.size, 0, none⟩ = some (.int .i64 lo) := m0
  have n1 : (Y.drewN nq).cell? ⟨w.heap.size, 1, none⟩ = some (.int .i64 kn) := m1
  have HI1 : Hid (SI w X.heap.size (1 + 5) (Y.drewN nq)) := ⟨HI0.out.1.res, HI0.out.1.own, below_drewN HI0.out.1.bel _, HI0.out.1.gt⟩
  clear e1 e2 e3 m0 m1 HI0
  generalize Y.drewN nq = Z at *
  go_wp2
  go_quiet ((go_at_call 30; exact Calls.quiet_of_same (HP3.out _)))
  have g2 : (Z.drewN nq).cell? ⟨b, off + 2, none⟩ = some (.int .i64 x2) := f2
  have HI : Hid (SI w X.heap.size (1 + 5) (Z.drewN nq)) := ⟨HI1.out.res, HI1.out.own, below_drewN HI1.out.bel _, HI1.out.gt⟩
  clear f2 f3 n0 n1 HI1 HP2 HP3
  generalize Z.drewN nq = V at *
  obtain ⟨s0, s1, s2, s3, sf⟩ := HI.out.own.facts
  have hlV := blk_lt HI.out.own
  have hbw : ¬ b = X.heap.size := by omega
  clear hwX hwX0
  generalize X.heap.size = sb at *
  go_wp2
  refine wp_ldN (T := 78) sb 0 (by rfl) (by rfl) (by exact StBlk.at (((HI.out.own.a _).b _).c _)) (by exact Try.underlying78) (by rfl) (by exact Try.sizeStep) ?_
  go_wp2
  refine wp_stN (T := 78) (w.heap.size + 1) (by rfl) (by rfl) (by rfl) (by exact (((HI.out.res.other (by have := HI.out.gt; omega)).other (by have := HI.out.gt; omega)).other (by have := HI.out.gt; omega))) (by exact Try.sizeStep) (by rfl) (by exact StBlk.one) ?_
  rintro U hU hF
  have HU : Hid (StBlk U (w.heap.size + 1) (6) (y1) (lo + y2) (lo + y3) ∧ Below w.heap.size w U) := ⟨hU, (((HI.out.bel.setCell (p := ⟨sb, _, none⟩) (by have := HI.out.gt; show w.heap.size ≤ sb; omega) _).setCell (p := ⟨sb, _, none⟩) (by have := HI.out.gt; show w.heap.size ≤ sb; omega) _).setCell (p := ⟨sb, _, none⟩) (by have := HI.out.gt; show w.heap.size ≤ sb; omega) _).trans (hF.below (by omega) (by have := HI.out.bel.size; simpa using this))⟩
  clear hU hF
  go_wp2
  refine bodyPost_ret (results_cell1 (by rfl) (by rfl) HU.out.1.load) rfl ⟨?_, HU.out.2⟩
  rw [HM.out]
  have hh := HY.out
  obtain ⟨z1, z2, z3⟩ := hh
  unfold mkSt
  rw [HE.out, ← z1, ← z2, ← z3]
  simp
  rw [if_neg (by omega)]
  rfl
end Go.Proofs.Ytlbmcdoldnajoab
namespace Go.Proofs.Ytlbmcdoldnajoab
open Go.RowKit
attribute [local go_sem ↓] wStS wLdS
set_option maxRecDepth 100000 in
set_option maxHeartbeats 1000000 in
theorem step_6 (b off cap : Nat) (x0 x1 x2 x3 i n lo kn : Int) (w : World) (hb : b < w.heap.size) (h4 : Four w b off x0 x1 x2 x3) (h0 : i64B x0) (h1 : i64B x1) (h2 : i64B x2) (h3 : i64B x3) (hk : 0 < kn) (hk' : kn ≤ 16) (hlo : 0 ≤ lo) (hlo' : lo ≤ 16)
    (hr : 0 ≤ i ∧ i < n ∧ n ≤ 32) (he : pickI x0 12 = 6)  :
    Calls Try.prog 51 #[.slice (some ⟨b, off, none⟩) 4 cap, .int .i64 i, .int .i64 n, .agg #[.int .i64 lo, .int .i64 kn]] w fun e w' => Stepped (mkSt x0 x1 x2 x3 i n lo kn) w e w' := by
  obtain ⟨c0, c1, c2, c3⟩ := h4
  obtain ⟨hi, hin, hn⟩ := hr
  have HX : Hid (i64B x0 ∧ i64B x1 ∧ i64B x2 ∧ i64B x3) := ⟨h0, h1, h2, h3⟩
  have HE : Hid (pickI x0 12 = 6) := he
  clear h0 h1 h2 h3 he
  obtain ⟨y1, hy1⟩ : ∃ y, y = pickI x1 4 := ⟨_, rfl⟩
  obtain ⟨y2, hy2⟩ : ∃ y, y = pickI x2 kn := ⟨_, rfl⟩
  obtain ⟨y3, hy3⟩ : ∃ y, y = pickI x3 kn := ⟨_, rfl⟩
  have a3 := pickI_lo x2 hk
  have a4 := pickI_hi x2 hk
  have a5 := pickI_lo x3 hk
  have a6 := pickI_hi x3 hk
  have HY : Hid (y1 = pickI x1 4 ∧ y2 = pickI x2 kn ∧ y3 = pickI x3 kn) := ⟨hy1, hy2, hy3⟩
  rw [← hy2] at a3 a4
  rw [← hy3] at a5 a6
  clear hy1 hy2 hy3
  obtain ⟨fs, hfs⟩ : ∃ fs, fs = mkSt x0 x1 x2 x3 i n lo kn := ⟨_, rfl⟩
  have HM : Hid (fs = mkSt x0 x1 x2 x3 i n lo kn) := hfs
  rw [← hfs]
  clear hfs
  have w2 : IntKind.i64.wrap (lo + y2) = lo + y2 := by rw [IntKind.wrap_i64]; omega
  have w3 : IntKind.i64.wrap (lo + y3) = lo + y3 := by rw [IntKind.wrap_i64]; omega
  have HP2 : Hid (∀ W : World, Calls Try.prog 30 #[.int .i64 x2, .int .i64 kn] W fun e w' => e = .returned (.int .i64 y2) ∧ w' = W) := fun W => by have := pick_any x2 kn W HX.out.2.2.1 (by omega) (by omega); rwa [← HY.out.2.1] at this
  have HP3 : Hid (∀ W : World, Calls Try.prog 30 #[.int .i64 x3, .int .i64 kn] W fun e w' => e = .returned (.int .i64 y3) ∧ w' = W) := fun W => by have := pick_any x3 kn W HX.out.2.2.2 (by omega) (by omega); rwa [← HY.out.2.2] at this
  go_enter Try.func51, Try.ntmps51
  go_wp2_with fail
  refine name_calls (p := fun X => Below w.heap.size w X ∧ X.heap[w.heap.size]? = some (.cells #[.int .i64 lo, .int .i64 kn] 87 (0, 0)) ∧ StBlk X (w.heap.size + 1) 0 0 0 0) ⟨((Below.refl _ _).alloc (Nat.le_refl _) _).alloc (by simp) _, new_old (heap_alloc_new _ _), new_1 _ _ _⟩ ?_
  rintro X ⟨k1, k2, k3⟩
  have d1 := (k1.cell (p := ⟨b, off + 1, none⟩) hb).trans c1
  have d2 := (k1.cell (p := ⟨b, off + 2, none⟩) hb).trans c2
  have d3 := (k1.cell (p := ⟨b, off + 3, none⟩) hb).trans c3
  have hwX := blk_lt k3
  have HXX : Hid (Below w.heap.size w X ∧ X.heap[w.heap.size]? = some (.cells #[.int .i64 lo, .int .i64 kn] 87 (0, 0)) ∧ StBlk X (w.heap.size + 1) 0 0 0 0) := ⟨k1, k2, k3⟩
  have hbX : b < X.heap.size := by omega
  clear k1 k2 k3 c0 c1 c2 c3
  refine (pick_any x0 12 X HX.out.1 (by omega) (by omega)).mono ?_
  rintro e X' ⟨rfl, h⟩
  obtain rfl := h.symm
  rw [HE.out]
  clear h
  go_wp2
  refine wp_stN (T := 78) X.heap.size (by rfl) (by rfl) (by rfl) (by exact heap_alloc_new _ _) (by exact Try.sizeStep) (by rfl) (by exact StBlk.one) ?_
  rintro Y hY hF
  have HI0 : Hid (SI w X.heap.size (1 + 6) Y ∧ Below X.heap.size X Y) := by
    have hb1 : Below X.heap.size X Y := ((Below.refl _ X).alloc (Nat.le_refl _) _).trans (hF.below (by omega) (by simp))
    exact ⟨⟨(hb1.block _ hwX).trans HXX.out.2.2, hY, HXX.out.1.trans (hb1.mono HXX.out.1.size), hwX⟩, hb1⟩
  have e1 := (HI0.out.2.cell (p := ⟨b, off + 1, none⟩) hbX).trans d1
  have e2 := (HI0.out.2.cell (p := ⟨b, off + 2, none⟩) hbX).trans d2
  have e3 := (HI0.out.2.cell (p := ⟨b, off + 3, none⟩) hbX).trans d3
  have hwX0 : w.heap.size < X.heap.size := by omega
  have m0 : Y.cell? ⟨w.heap.size, 0, none⟩ = some (.int .i64 lo) := by rw [blk_cell ((HI0.out.2.block _ hwX0).trans HXX.out.2.1)]; rfl
  have m1 : Y.cell? ⟨w.heap.size, 1, none⟩ = some (.int .i64 kn) := by rw [blk_cell ((HI0.out.2.block _ hwX0).trans HXX.out.2.1)]; rfl
  clear hY hF d1 d2 d3 HXX
  go_wp2_with (go_at_call 30; refine (pick_any x1 4 Y HX.out.2.1 (by omega) (by omega)).mono ?_; rintro e Y' ⟨rfl, h⟩; obtain rfl := h.symm; rw [← HY.out.1]; clear h)
  go_quiet ((go_at_call 30; exact Calls.quiet_of_same (HP2.out _)))
  have f2 : (Y.drewN nq).cell? ⟨b, off + 2, none⟩ = some (.int .i64 x2) := e2
  have f3 : (Y.drewN nq).cell? ⟨b, off + 3, none⟩ = some (.int .i64 x3) := e3
  have n0 : (Y.drewN nq).cell? ⟨w.heap.size, 0, none⟩ = some (.int .i64 lo) := m0
  have n1 : (Y.drewN nq).cell? ⟨w.heap.size, 1, none⟩ = some (.int .i64 kn) := m1
  have HI1 : Hid (SI w X.heap.size (1 + 6) (Y.drewN nq)) := ⟨HI0.out.1.res, HI0.out.1.own, below_drewN HI0.out.1.bel _, HI0.out.1.gt⟩
  clear e1 e2 e3 m0 m1 HI0
  generalize Y.drewN nq = Z at *
  go_wp2
  go_quiet ((go_at_call 30; exact Calls.quiet_of_same (HP3.out _)))
  have g2 : (Z.drewN nq).cell? ⟨b, off + 2, none⟩ = some (.int .i64 x2) := f2
  have HI : Hid (SI w X.heap.size (1 + 6) (Z.drewN nq)) := ⟨HI1.out.res, HI1.out.own, below_drewN HI1.out.bel _, HI1.out.gt⟩
  clear f2 f3 n0 n1 HI1 HP2 HP3
  generalize Z.drewN nq = V at *
  obtain ⟨s0, s1, s2, s3, sf⟩ := HI.out.own.facts
  have hlV := blk_lt HI.out.own
  have hbw : ¬ b = X.heap.size := by omega
  clear hwX hwX0
  generalize X.heap.size = sb at *
  go_wp2_with (go_at_call 30; refine (pick_any x2 4 _ HX.out.2.2.1 (by omega) (by omega)).mono ?_; rintro e w' ⟨rfl, h⟩; obtain rfl := h.symm; clear h)
  refine wp_ldN (T := 78) sb 0 (by rfl) (by rfl) (by exact StBlk.at ((HI.out.own.a _).b _)) (by exact Try.underlying78) (by rfl) (by exact Try.sizeStep) ?_
  go_wp2
  refine wp_stN (T := 78) (w.heap.size + 1) (by rfl) (by rfl) (by rfl) (by exact ((HI.out.res.other (by have := HI.out.gt; omega)).other (by have := HI.out.gt; omega))) (by exact Try.sizeStep) (by rfl) (by exact StBlk.one) ?_
  rintro U hU hF
  have HU : Hid (StBlk U (w.heap.size + 1) (7) (y1) (pickI x2 4) (0) ∧ Below w.heap.size w U) := ⟨hU, ((HI.out.bel.setCell (p := ⟨sb, _, none⟩) (by have := HI.out.gt; show w.heap.size ≤ sb; omega) _).setCell (p := ⟨sb, _, none⟩) (by have := HI.out.gt; show w.heap.size ≤ sb; omega) _).trans (hF.below (by omega) (by have := HI.out.bel.size; simpa using this))⟩
  clear hU hF
  go_wp2
  refine bodyPost_ret (results_cell1 (by rfl) (by rfl) HU.out.1.load) rfl ⟨?_, HU.out.2⟩
  rw [HM.out]
  have hh := HY.out
  obtain ⟨z1, z2, z3⟩ := hh
  unfold mkSt
  rw [HE.out, ← z1, ← z2, ← z3]
  simp
  rfl
set_option maxRecDepth 100000 in
set_option maxHeartbeats 1000000 in
theorem step_7 (b off cap : Nat) (x0 x1 x2 x3 i n lo kn : Int) (w : World) (hb : b < w.heap.size) (h4 : Four w b off x0 x1 x2 x3) (h0 : i64B x0) (h1 : i64B x1) (h2 : i64B x2) (h3 : i64B x3) (hk : 0 < kn) (hk' : kn ≤ 16) (hlo : 0 ≤ lo) (hlo' : lo ≤ 16)
    (hr : 0 ≤ i ∧ i < n ∧ n ≤ 32) (he : pickI x0 12 = 7)  :
    Calls Try.prog 51 #[.slice (some ⟨b, off, none⟩) 4 cap, .int .i64 i, .int .i64 n, .agg #[.int .i64 lo, .int .i64 kn]] w fun e w' => Stepped (mkSt x0 x1 x2 x3 i n lo kn) w e w' := by
  obtain ⟨c0, c1, c2, c3⟩ := h4
  obtain ⟨hi, hin, hn⟩ := hr
  have HX : Hid (i64B x0 ∧ i64B x1 ∧ i64B x2 ∧ i64B x3) := ⟨h0, h1, h2, h3⟩
  have HE : Hid (pickI x0 12 = 7) := he
  clear h0 h1 h2 h3 he
  obtain ⟨y1, hy1⟩ : ∃ y, y = pickI x1 4 := ⟨_, rfl⟩
  obtain ⟨y2, hy2⟩ : ∃ y, y = pickI x2 kn := ⟨_, rfl⟩
  obtain ⟨y3, hy3⟩ : ∃ y, y = pickI x3 kn := ⟨_, rfl⟩
  have a3 := pickI_lo x2 hk
  have a4 := pickI_hi x2 hk
  have a5 := pickI_lo x3 hk
  have a6 := pickI_hi x3 hk
  have HY : Hid (y1 = pickI x1 4 ∧ y2 = pickI x2 kn ∧ y3 = pickI x3 kn) := ⟨hy1, hy2, hy3⟩
  rw [← hy2] at a3 a4
  rw [← hy3] at a5 a6
  clear hy1 hy2 hy3
  obtain ⟨fs, hfs⟩ : ∃ fs, fs = mkSt x0 x1 x2 x3 i n lo kn := ⟨_, rfl⟩
  have HM : Hid (fs = mkSt x0 x1 x2 x3 i n lo kn) := hfs
  rw [← hfs]
  clear hfs
  have w2 : IntKind.i64.wrap (lo + y2) = lo + y2 := by rw [IntKind.wrap_i64]; omega
  have w3 : IntKind.i64.wrap (lo + y3) = lo + y3 := by rw [IntKind.wrap_i64]; omega
  have HP2 : Hid (∀ W : World, Calls Try.prog 30 #[.int .i64 x2, .int .i64 kn] W fun e w' => e = .returned (.int .i64 y2) ∧ w' = W) := fun W => by have := pick_any x2 kn W HX.out.2.2.1 (by omega) (by omega); rwa [← HY.out.2.1] at this
  have HP3 : Hid (∀ W : World, Calls Try.prog 30 #[.int .i64 x3, .int .i64 kn] W fun e w' => e = .returned (.int .i64 y3) ∧ w' = W) := fun W => by have := pick_any x3 kn W HX.out.2.2.2 (by omega) (by omega); rwa [← HY.out.2.2] at this
  go_enter Try.func51, Try.ntmps51
  go_wp2_with fail
  refine name_calls (p := fun X => Below w.heap.size w X ∧ X.heap[w.heap.size]? = some (.cells #[.int .i64 lo, .int .i64 kn] 87 (0, 0)) ∧ StBlk X (w.heap.size + 1) 0 0 0 0) ⟨((Below.refl _ _).alloc (Nat.le_refl _) _).alloc (by simp) _, new_old (heap_alloc_new _ _), new_1 _ _ _⟩ ?_
  rintro X ⟨k1, k2, k3⟩
  have d1 := (k1.cell (p := ⟨b, off + 1, none⟩) hb).trans c1
  have d2 := (k1.cell (p := ⟨b, off + 2, none⟩) hb).trans c2
  have d3 := (k1.cell (p := ⟨b, off + 3, none⟩) hb).trans c3
  have hwX := blk_lt k3
  have HXX : Hid (Below w.heap.size w X ∧ X.heap[w.heap.size]? = some (.cells #[.int .i64 lo, .int .i64 kn] 87 (0, 0)) ∧ StBlk X (w.heap.size + 1) 0 0 0 0) := ⟨k1, k2, k3⟩
  have hbX : b < X.heap.size := by omega
  clear k1 k2 k3 c0 c1 c2 c3
  refine (pick_any x0 12 X HX.out.1 (by omega) (by omega)).mono ?_
  rintro e X' ⟨rfl, h⟩
  obtain rfl := h.symm
  rw [HE.out]
  clear h
  go_wp2
  refine wp_stN (T := 78) X.heap.size (by rfl) (by rfl) (by rfl) (by exact heap_alloc_new _ _) (by exact Try.sizeStep) (by rfl) (by exact StBlk.one) ?_
  rintro Y hY hF
  have HI0 : Hid (SI w X.heap.size (1 + 7) Y ∧ Below X.heap.size X Y) := by
    have hb1 : Below X.heap.size X Y := ((Below.refl _ X).alloc (Nat.le_refl _) _).trans (hF.below (by omega) (by simp))
    exact ⟨⟨(hb1.block _ hwX).trans HXX.out.2.2, hY, HXX.out.1.trans (hb1.mono HXX.out.1.size), hwX⟩, hb1⟩
  have e1 := (HI0.out.2.cell (p := ⟨b, off + 1, none⟩) hbX).trans d1
  have e2 := (HI0.out.2.cell (p := ⟨b, off + 2, none⟩) hbX).trans d2
  have e3 := (HI0.out.2.cell (p := ⟨b, off + 3, none⟩) hbX).trans d3
  have hwX0 : w.heap.size < X.heap.size := by omega
  have m0 : Y.cell? ⟨w.heap.size, 0, none⟩ = some (.int .i64 lo) := by rw [blk_cell ((HI0.out.2.block _ hwX0).trans HXX.out.2.1)]; rfl
  have m1 : Y.cell? ⟨w.heap.size, 1, none⟩ = some (.int .i64 kn) := by rw [blk_cell ((HI0.out.2.block _ hwX0).trans HXX.out.2.1)]; rfl
  clear hY hF d1 d2 d3 HXX
  go_wp2_with (go_at_call 30; refine (pick_any x1 4 Y HX.out.2.1 (by omega) (by omega)).mono ?_; rintro e Y' ⟨rfl, h⟩; obtain rfl := h.symm; rw [← HY.out.1]; clear h)
  go_quiet ((go_at_call 30; exact Calls.quiet_of_same (HP2.out _)))
  have f2 : (Y.drewN nq).cell? ⟨b, off + 2, none⟩ = some (.int .i64 x2) := e2
  have f3 : (Y.drewN nq).cell? ⟨b, off + 3, none⟩ = some (.int .i64 x3) := e3
  have n0 : (Y.drewN nq).cell? ⟨w.heap.size, 0, none⟩ = some (.int .i64 lo) := m0
  have n1 : (Y.drewN nq).cell? ⟨w.heap.size, 1, none⟩ = some (.int .i64 kn) := m1
  have HI1 : Hid (SI w X.heap.size (1 + 7) (Y.drewN nq)) := ⟨HI0.out.1.res, HI0.out.1.own, below_drewN HI0.out.1.bel _, HI0.out.1.gt⟩
  clear e1 e2 e3 m0 m1 HI0
  generalize Y.drewN nq = Z at *
  go_wp2
  go_quiet ((go_at_call 30; exact Calls.quiet_of_same (HP3.out _)))
  have g2 : (Z.drewN nq).cell? ⟨b, off + 2, none⟩ = some (.int .i64 x2) := f2
  have HI : Hid (SI w X.heap.size (1 + 7) (Z.drewN nq)) := ⟨HI1.out.res, HI1.out.own, below_drewN HI1.out.bel _, HI1.out.gt⟩
  clear f2 f3 n0 n1 HI1 HP2 HP3
  generalize Z.drewN nq = V at *
  obtain ⟨s0, s1, s2, s3, sf⟩ := HI.out.own.facts
  have hlV := blk_lt HI.out.own
  have hbw : ¬ b = X.heap.size := by omega
  clear hwX hwX0
  generalize X.heap.size = sb at *
  go_wp2_with (go_at_call 30; refine (pick_any x2 4 _ HX.out.2.2.1 (by omega) (by omega)).mono ?_; rintro e w' ⟨rfl, h⟩; obtain rfl := h.symm; clear h)
  refine wp_ldN (T := 78) sb 0 (by rfl) (by rfl) (by exact StBlk.at ((HI.out.own.a _).b _)) (by exact Try.underlying78) (by rfl) (by exact Try.sizeStep) ?_
  go_wp2
  refine wp_stN (T := 78) (w.heap.size + 1) (by rfl) (by rfl) (by rfl) (by exact ((HI.out.res.other (by have := HI.out.gt; omega)).other (by have := HI.out.gt; omega))) (by exact Try.sizeStep) (by rfl) (by exact StBlk.one) ?_
  rintro U hU hF
  have HU : Hid (StBlk U (w.heap.size + 1) (8) (y1) (pickI x2 4) (0) ∧ Below w.heap.size w U) := ⟨hU, ((HI.out.bel.setCell (p := ⟨sb, _, none⟩) (by have := HI.out.gt; show w.heap.size ≤ sb; omega) _).setCell (p := ⟨sb, _, none⟩) (by have := HI.out.gt; show w.heap.size ≤ sb; omega) _).trans (hF.below (by omega) (by have := HI.out.bel.size; simpa using this))⟩
  clear hU hF
  go_wp2
  refine bodyPost_ret (results_cell1 (by rfl) (by rfl) HU.out.1.load) rfl ⟨?_, HU.out.2⟩
  rw [HM.out]
  have hh := HY.out
  obtain ⟨z1, z2, z3⟩ := hh
  unfold mkSt
  rw [HE.out, ← z1, ← z2, ← z3]
  simp
  rfl
set_option maxRecDepth 100000 in
set_option maxHeartbeats 1000000 in
theorem step_8y (b off cap : Nat) (x0 x1 x2 x3 i n lo kn : Int) (w : World) (hb : b < w.heap.size) (h4 : Four w b off x0 x1 x2 x3) (h0 : i64B x0) (h1 : i64B x1) (h2 : i64B x2) (h3 : i64B x3) (hk : 0 < kn) (hk' : kn ≤ 16) (hlo : 0 ≤ lo) (hlo' : lo ≤ 16)
    (hr : 0 ≤ i ∧ i < n ∧ n ≤ 32) (he : pickI x0 12 = 8) (q : n - i - 1 < 1) :
    Calls Try.prog 51 #[.slice (some ⟨b, off, none⟩) 4 cap, .int .i64 i, .int .i64 n, .agg #[.int .i64 lo, .int .i64 kn]] w fun e w' => Stepped (mkSt x0 x1 x2 x3 i n lo kn) w e w' := by
  obtain ⟨c0, c1, c2, c3⟩ := h4
  obtain ⟨hi, hin, hn⟩ := hr
  have HX : Hid (i64B x0 ∧ i64B x1 ∧ i64B x2 ∧ i64B x3) := ⟨h0, h1, h2, h3⟩
  have HE : Hid (pickI x0 12 = 8) := he
  clear h0 h1 h2 h3 he
  obtain ⟨y1, hy1⟩ : ∃ y, y = pickI x1 4 := ⟨_, rfl⟩
  obtain ⟨y2, hy2⟩ : ∃ y, y = pickI x2 kn := ⟨_, rfl⟩
  obtain ⟨y3, hy3⟩ : ∃ y, y = pickI x3 kn := ⟨_, rfl⟩
  have a3 := pickI_lo x2 hk
  have a4 := pickI_hi x2 hk
  have a5 := pickI_lo x3 hk
  have a6 := pickI_hi x3 hk
  have HY : Hid (y1 = pickI x1 4 ∧ y2 = pickI x2 kn ∧ y3 = pickI x3 kn) := ⟨hy1, hy2, hy3⟩
  rw [← hy2] at a3 a4
  rw [← hy3] at a5 a6
  clear hy1 hy2 hy3
  obtain ⟨fs, hfs⟩ : ∃ fs, fs = mkSt x0 x1 x2 x3 i n lo kn := ⟨_, rfl⟩
  have HM : Hid (fs = mkSt x0 x1 x2 x3 i n lo kn) := hfs
  rw [← hfs]
  clear hfs
  have w2 : IntKind.i64.wrap (lo + y2) = lo + y2 := by rw [IntKind.wrap_i64]; omega
  have w3 : IntKind.i64.wrap (lo + y3) = lo + y3 := by rw [IntKind.wrap_i64]; omega
  have HP2 : Hid (∀ W : World, Calls Try.prog 30 #[.int .i64 x2, .int .i64 kn] W fun e w' => e = .returned (.int .i64 y2) ∧ w' = W) := fun W => by have := pick_any x2 kn W HX.out.2.2.1 (by omega) (by omega); rwa [← HY.out.2.1] at this
  have HP3 : Hid (∀ W : World, Calls Try.prog 30 #[.int .i64 x3, .int .i64 kn] W fun e w' => e = .returned (.int .i64 y3) ∧ w' = W) := fun W => by have := pick_any x3 kn W HX.out.2.2.2 (by omega) (by omega); rwa [← HY.out.2.2] at this
  go_enter Try.func51, Try.ntmps51
  go_wp2_with fail
  refine name_calls (p := fun X => Below w.heap.size w X ∧ X.heap[w.heap.size]? = some (.cells #[.int .i64 lo, .int .i64 kn] 87 (0, 0)) ∧ StBlk X (w.heap.size + 1) 0 0 0 0) ⟨((Below.refl _ _).alloc (Nat.le_refl _) _).alloc (by simp) _, new_old (heap_alloc_new _ _), new_1 _ _ _⟩ ?_
  rintro X ⟨k1, k2, k3⟩
  have d1 := (k1.cell (p := ⟨b, off + 1, none⟩) hb).trans c1
  have d2 := (k1.cell (p := ⟨b, off + 2, none⟩) hb).trans c2
  have d3 := (k1.cell (p := ⟨b, off + 3, none⟩) hb).trans c3
  have hwX := blk_lt k3
  have HXX : Hid (Below w.heap.size w X ∧ X.heap[w.heap.size]? = some (.cells #[.int .i64 lo, .int .i64 kn] 87 (0, 0)) ∧ StBlk X (w.heap.size + 1) 0 0 0 0) := ⟨k1, k2, k3⟩
  have hbX : b < X.heap.size := by omega
  clear k1 k2 k3 c0 c1 c2 c3
  refine (pick_any x0 12 X HX.out.1 (by omega) (by omega)).mono ?_
  rintro e X' ⟨rfl, h⟩
  obtain rfl := h.symm
  rw [HE.out]
  clear h
  go_wp2
  refine wp_stN (T := 78) X.heap.size (by rfl) (by rfl) (by rfl) (by exact heap_alloc_new _ _) (by exact Try.sizeStep) (by rfl) (by exact StBlk.one) ?_
  rintro Y hY hF
  have HI0 : Hid (SI w X.heap.size (1 + 8) Y ∧ Below X.heap.size X Y) := by
    have hb1 : Below X.heap.size X Y := ((Below.refl _ X).alloc (Nat.le_refl _) _).trans (hF.below (by omega) (by simp))
    exact ⟨⟨(hb1.block _ hwX).trans HXX.out.2.2, hY, HXX.out.1.trans (hb1.mono HXX.out.1.size), hwX⟩, hb1⟩
  have e1 := (HI0.out.2.cell (p := ⟨b, off + 1, none⟩) hbX).trans d1
  have e2 := (HI0.out.2.cell (p := ⟨b, off + 2, none⟩) hbX).trans d2
  have e3 := (HI0.out.2.cell (p := ⟨b, off + 3, none⟩) hbX).trans d3
  have hwX0 : w.heap.size < X.heap.size := by omega
  have m0 : Y.cell? ⟨w.heap.size, 0, none⟩ = some (.int .i64 lo) := by rw [blk_cell ((HI0.out.2.block _ hwX0).trans HXX.out.2.1)]; rfl
  have m1 : Y.cell? ⟨w.heap.size, 1, none⟩ = some (.int .i64 kn) := by rw [blk_cell ((HI0.out.2.block _ hwX0).trans HXX.out.2.1)]; rfl
  clear hY hF d1 d2 d3 HXX
  go_wp2_with (go_at_call 30; refine (pick_any x1 4 Y HX.out.2.1 (by omega) (by omega)).mono ?_; rintro e Y' ⟨rfl, h⟩; obtain rfl := h.symm; rw [← HY.out.1]; clear h)
  go_quiet ((go_at_call 30; exact Calls.quiet_of_same (HP2.out _)))
  have f2 : (Y.drewN nq).cell? ⟨b, off + 2, none⟩ = some (.int .i64 x2) := e2
  have f3 : (Y.drewN nq).cell? ⟨b, off + 3, none⟩ = some (.int .i64 x3) := e3
  have n0 : (Y.drewN nq).cell? ⟨w.heap.size, 0, none⟩ = some (.int .i64 lo) := m0
  have n1 : (Y.drewN nq).cell? ⟨w.heap.size, 1, none⟩ = some (.int .i64 kn) := m1
  have HI1 : Hid (SI w X.heap.size (1 + 8) (Y.drewN nq)) := ⟨HI0.out.1.res, HI0.out.1.own, below_drewN HI0.out.1.bel _, HI0.out.1.gt⟩
  clear e1 e2 e3 m0 m1 HI0
  generalize Y.drewN nq = Z at *
  go_wp2
  go_quiet ((go_at_call 30; exact Calls.quiet_of_same (HP3.out _)))
  have g2 : (Z.drewN nq).cell? ⟨b, off + 2, none⟩ = some (.int .i64 x2) := f2
  have HI : Hid (SI w X.heap.size (1 + 8) (Z.drewN nq)) := ⟨HI1.out.res, HI1.out.own, below_drewN HI1.out.bel _, HI1.out.gt⟩
  clear f2 f3 n0 n1 HI1 HP2 HP3
  generalize Z.drewN nq = V at *
  obtain ⟨s0, s1, s2, s3, sf⟩ := HI.out.own.facts
  have hlV := blk_lt HI.out.own
  have hbw : ¬ b = X.heap.size := by omega
  clear hwX hwX0
  generalize X.heap.size = sb at *
  go_wp2
  refine wp_stN (T := 78) (w.heap.size + 1) (by rfl) (by rfl) (by rfl) (by exact (HI.out.res.other (by have := HI.out.gt; omega))) (by exact Try.sizeStep) (by rfl) (by exact StBlk.one) ?_
  rintro U hU hF
  have HU : Hid (StBlk U (w.heap.size + 1) (11) (y1) (0) (0) ∧ Below w.heap.size w U) := ⟨hU, (HI.out.bel.setCell (p := ⟨sb, _, none⟩) (by have := HI.out.gt; show w.heap.size ≤ sb; omega) _).trans (hF.below (by omega) (by have := HI.out.bel.size; simpa using this))⟩
  clear hU hF
  go_wp2
  refine bodyPost_ret (results_cell1 (by rfl) (by rfl) HU.out.1.load) rfl ⟨?_, HU.out.2⟩
  rw [HM.out]
  have hh := HY.out
  obtain ⟨z1, z2, z3⟩ := hh
  unfold mkSt
  rw [HE.out, ← z1, ← z2, ← z3]
  simp [q]
  rfl
set_option maxRecDepth 100000 in
set_option maxHeartbeats 1000000 in
theorem step_8n (b off cap : Nat) (x0 x1 x2 x3 i n lo kn : Int) (w : World) (hb : b < w.heap.size) (h4 : Four w b off x0 x1 x2 x3) (h0 : i64B x0) (h1 : i64B x1) (h2 : i64B x2) (h3 : i64B x3) (hk : 0 < kn) (hk' : kn ≤ 16) (hlo : 0 ≤ lo) (hlo' : lo ≤ 16)
    (hr : 0 ≤ i ∧ i < n ∧ n ≤ 32) (he : pickI x0 12 = 8) (q : ¬ n - i - 1 < 1) :
    Calls Try.prog 51 #[.slice (some ⟨b, off, none⟩) 4 cap, .int .i64 i, .int .i64 n, .agg #[.int .i64 lo, .int .i64 kn]] w fun e w' => Stepped (mkSt x0 x1 x2 x3 i n lo kn) w e w' := by
  obtain ⟨c0, c1, c2, c3⟩ := h4
  obtain ⟨hi, hin, hn⟩ := hr
  have HX : Hid (i64B x0 ∧ i64B x1 ∧ i64B x2 ∧ i64B x3) := ⟨h0, h1, h2, h3⟩
  have HE : Hid (pickI x0 12 = 8) := he
  clear h0 h1 h2 h3 he
  obtain ⟨y1, hy1⟩ : ∃ y, y = pickI x1 4 := ⟨_, rfl⟩
  obtain ⟨y2, hy2⟩ : ∃ y, y = pickI x2 kn := ⟨_, rfl⟩
  obtain ⟨y3, hy3⟩ : ∃ y, y = pickI x3 kn := ⟨_, rfl⟩
  have a3 := pickI_lo x2 hk
  have a4 := pickI_hi x2 hk
  have a5 := pickI_lo x3 hk
  have a6 := pickI_hi x3 hk
  have HY : Hid (y1 = pickI x1 4 ∧ y2 = pickI x2 kn ∧ y3 = pickI x3 kn) := ⟨hy1, hy2, hy3⟩
  rw [← hy2] at a3 a4
  rw [← hy3] at a5 a6
  have u1 := pickI_lo x2 (n := (n - i - 1)) (by omega)
  have u2 := pickI_hi x2 (n := (n - i - 1)) (by omega)
  clear hy1 hy2 hy3
  obtain ⟨fs, hfs⟩ : ∃ fs, fs = mkSt x0 x1 x2 x3 i n lo kn := ⟨_, rfl⟩
  have HM : Hid (fs = mkSt x0 x1 x2 x3 i n lo kn) := hfs
  rw [← hfs]
  clear hfs
  have w2 : IntKind.i64.wrap (lo + y2) = lo + y2 := by rw [IntKind.wrap_i64]; omega
  have w3 : IntKind.i64.wrap (lo + y3) = lo + y3 := by rw [IntKind.wrap_i64]; omega
  have HP2 : Hid (∀ W : World, Calls Try.prog 30 #[.int .i64 x2, .int .i64 kn] W fun e w' => e = .returned (.int .i64 y2) ∧ w' = W) := fun W => by have := pick_any x2 kn W HX.out.2.2.1 (by omega) (by omega); rwa [← HY.out.2.1] at this
  have HP3 : Hid (∀ W : World, Calls Try.prog 30 #[.int .i64 x3, .int .i64 kn] W fun e w' => e = .returned (.int .i64 y3) ∧ w' = W) := fun W => by have := pick_any x3 kn W HX.out.2.2.2 (by omega) (by omega); rwa [← HY.out.2.2] at this
  go_enter Try.func51, Try.ntmps51
  go_wp2_with fail
  refine name_calls (p := fun X => Below w.heap.size w X ∧ X.heap[w.heap.size]? = some (.cells #[.int .i64 lo, .int .i64 kn] 87 (0, 0)) ∧ StBlk X (w.heap.size + 1) 0 0 0 0) ⟨((Below.refl _ _).alloc (Nat.le_refl _) _).alloc (by simp) _, new_old (heap_alloc_new _ _), new_1 _ _ _⟩ ?_
  rintro X ⟨k1, k2, k3⟩
  have d1 := (k1.cell (p := ⟨b, off + 1, none⟩) hb).trans c1
  have d2 := (k1.cell (p := ⟨b, off + 2, none⟩) hb).trans c2
  have d3 := (k1.cell (p := ⟨b, off + 3, none⟩) hb).trans c3
  have hwX := blk_lt k3
  have HXX : Hid (Below w.heap.size w X ∧ X.heap[w.heap.size]? = some (.cells #[.int .i64 lo, .int .i64 kn] 87 (0, 0)) ∧ StBlk X (w.heap.size + 1) 0 0 0 0) := ⟨k1, k2, k3⟩
  have hbX : b < X.heap.size := by omega
  clear k1 k2 k3 c0 c1 c2 c3
  refine (pick_any x0 12 X HX.out.1 (by omega) (by omega)).mono ?_
  rintro e X' ⟨rfl, h⟩
  obtain rfl := h.symm
  rw [HE.out]
  clear h
  go_wp2
  refine wp_stN (T := 78) X.heap.size (by rfl) (by rfl) (by rfl) (by exact heap_alloc_new _ _) (by exact Try.sizeStep) (by rfl) (by exact StBlk.one) ?_
  rintro Y hY hF
  have HI0 : Hid (SI w X.heap.size (1 + 8) Y ∧ Below X.heap.size X Y) := by
    have hb1 : Below X.heap.size X Y := ((Below.refl _ X).alloc (Nat.le_refl _) _).trans (hF.below (by omega) (by simp))
    exact ⟨⟨(hb1.block _ hwX).trans HXX.out.2.2, hY, HXX.out.1.trans (hb1.mono HXX.out.1.size), hwX⟩, hb1⟩
  have e1 := (HI0.out.2.cell (p := ⟨b, off + 1, none⟩) hbX).trans d1
  have e2 := (HI0.out.2.cell (p := ⟨b, off + 2, none⟩) hbX).trans d2
  have e3 := (HI0.out.2.cell (p := ⟨b, off + 3, none⟩) hbX).trans d3
  have hwX0 : w.heap.size < X.heap.size := by omega
  have m0 : Y.cell? ⟨w.heap.size, 0, none⟩ = some (.int .i64 lo) := by rw [blk_cell ((HI0.out.2.block _ hwX0).trans HXX.out.2.1)]; rfl
  have m1 : Y.cell? ⟨w.heap.size, 1, none⟩ = some (.int .i64 kn) := by rw [blk_cell ((HI0.out.2.block _ hwX0).trans HXX.out.2.1)]; rfl
  clear hY hF d1 d2 d3 HXX
  go_wp2_with (go_at_call 30; refine (pick_any x1 4 Y HX.out.2.1 (by omega) (by omega)).mono ?_; rintro e Y' ⟨rfl, h⟩; obtain rfl := h.symm; rw [← HY.out.1]; clear h)
  go_quiet ((go_at_call 30; exact Calls.quiet_of_same (HP2.out _)))
  have f2 : (Y.drewN nq).cell? ⟨b, off + 2, none⟩ = some (.int .i64 x2) := e2
  have f3 : (Y.drewN nq).cell? ⟨b, off + 3, none⟩ = some (.int .i64 x3) := e3
  have n0 : (Y.drewN nq).cell? ⟨w.heap.size, 0, none⟩ = some (.int .i64 lo) := m0
  have n1 : (Y.drewN nq).cell? ⟨w.heap.size, 1, none⟩ = some (.int .i64 kn) := m1
  have HI1 : Hid (SI w X.heap.size (1 + 8) (Y.drewN nq)) := ⟨HI0.out.1.res, HI0.out.1.own, below_drewN HI0.out.1.bel _, HI0.out.1.gt⟩
  clear e1 e2 e3 m0 m1 HI0
  generalize Y.drewN nq = Z at *
  go_wp2
  go_quiet ((go_at_call 30; exact Calls.quiet_of_same (HP3.out _)))
  have g2 : (Z.drewN nq).cell? ⟨b, off + 2, none⟩ = some (.int .i64 x2) := f2
  have HI : Hid (SI w X.heap.size (1 + 8) (Z.drewN nq)) := ⟨HI1.out.res, HI1.out.own, below_drewN HI1.out.bel _, HI1.out.gt⟩
  clear f2 f3 n0 n1 HI1 HP2 HP3
  generalize Z.drewN nq = V at *
  obtain ⟨s0, s1, s2, s3, sf⟩ := HI.out.own.facts
  have hlV := blk_lt HI.out.own
  have hbw : ¬ b = X.heap.size := by omega
  clear hwX hwX0
  generalize X.heap.size = sb at *
  go_wp2_with (go_at_call 30; refine (pick_any x2 (n - i - 1) _ HX.out.2.2.1 (by omega) (by omega)).mono ?_; rintro e w' ⟨rfl, h⟩; obtain rfl := h.symm; clear h)
  refine wp_ldN (T := 78) sb 0 (by rfl) (by rfl) (by exact StBlk.at ((HI.out.own.a _).b _)) (by exact Try.underlying78) (by rfl) (by exact Try.sizeStep) ?_
  go_wp2
  refine wp_stN (T := 78) (w.heap.size + 1) (by rfl) (by rfl) (by rfl) (by exact ((HI.out.res.other (by have := HI.out.gt; omega)).other (by have := HI.out.gt; omega))) (by exact Try.sizeStep) (by rfl) (by exact StBlk.one) ?_
  rintro U hU hF
  have HU : Hid (StBlk U (w.heap.size + 1) (9) (y1) (1 + pickI x2 (n - i - 1)) (0) ∧ Below w.heap.size w U) := ⟨hU, ((HI.out.bel.setCell (p := ⟨sb, _, none⟩) (by have := HI.out.gt; show w.heap.size ≤ sb; omega) _).setCell (p := ⟨sb, _, none⟩) (by have := HI.out.gt; show w.heap.size ≤ sb; omega) _).trans (hF.below (by omega) (by have := HI.out.bel.size; simpa using this))⟩
  clear hU hF
  go_wp2
  refine bodyPost_ret (results_cell1 (by rfl) (by rfl) HU.out.1.load) rfl ⟨?_, HU.out.2⟩
  rw [HM.out]
  have hh := HY.out
  obtain ⟨z1, z2, z3⟩ := hh
  unfold mkSt
  rw [HE.out, ← z1, ← z2, ← z3]
  simp
  rw [if_neg (by omega)]
  rfl
end Go.Proofs.Ytlbmcdoldnajoab
namespace Go.Proofs.Ytlbmcdoldnajoab
open Go.RowKit
attribute [local go_sem ↓] wStS wLdS
set_option maxRecDepth 100000 in
set_option maxHeartbeats 1000000 in
theorem step_9y (b off cap : Nat) (x0 x1 x2 x3 i n lo kn : Int) (w : World) (hb : b < w.heap.size) (h4 : Four w b off x0 x1 x2 x3) (h0 : i64B x0) (h1 : i64B x1) (h2 : i64B x2) (h3 : i64B x3) (hk : 0 < kn) (hk' : kn ≤ 16) (hlo : 0 ≤ lo) (hlo' : lo ≤ 16)
    (hr : 0 ≤ i ∧ i < n ∧ n ≤ 32) (he : pickI x0 12 = 9) (q : i < 1) :
    Calls Try.prog 51 #[.slice (some ⟨b, off, none⟩) 4 cap, .int .i64 i, .int .i64 n, .agg #[.int .i64 lo, .int .i64 kn]] w fun e w' => Stepped (mkSt x0 x1 x2 x3 i n lo kn) w e w' := by
  obtain ⟨c0, c1, c2, c3⟩ := h4
  obtain ⟨hi, hin, hn⟩ := hr
  have HX : Hid (i64B x0 ∧ i64B x1 ∧ i64B x2 ∧ i64B x3) := ⟨h0, h1, h2, h3⟩
  have HE : Hid (pickI x0 12 = 9) := he
  clear h0 h1 h2 h3 he
  obtain ⟨y1, hy1⟩ : ∃ y, y = pickI x1 4 := ⟨_, rfl⟩
  obtain ⟨y2, hy2⟩ : ∃ y, y = pickI x2 kn := ⟨_, rfl⟩
  obtain ⟨y3, hy3⟩ : ∃ y, y = pickI x3 kn := ⟨_, rfl⟩
  have a3 := pickI_lo x2 hk
  have a4 := pickI_hi x2 hk
  have a5 := pickI_lo x3 hk
  have a6 := pickI_hi x3 hk
  have HY : Hid (y1 = pickI x1 4 ∧ y2 = pickI x2 kn ∧ y3 = pickI x3 kn) := ⟨hy1, hy2, hy3⟩
  rw [← hy2] at a3 a4
  rw [← hy3] at a5 a6
  clear hy1 hy2 hy3
  obtain ⟨fs, hfs⟩ : ∃ fs, fs = mkSt x0 x1 x2 x3 i n lo kn := ⟨_, rfl⟩
  have HM : Hid (fs = mkSt x0 x1 x2 x3 i n lo kn) := hfs
  rw [← hfs]
  clear hfs
  have w2 : IntKind.i64.wrap (lo + y2) = lo + y2 := by rw [IntKind.wrap_i64]; omega
  have w3 : IntKind.i64.wrap (lo + y3) = lo + y3 := by rw [IntKind.wrap_i64]; omega
  have HP2 : Hid (∀ W : World, Calls Try.prog 30 #[.int .i64 x2, .int .i64 kn] W fun e w' => e = .returned (.int .i64 y2) ∧ w' = W) := fun W => by have := pick_any x2 kn W HX.out.2.2.1 (by omega) (by omega); rwa [← HY.out.2.1] at this
  have HP3 : Hid (∀ W : World, Calls Try.prog 30 #[.int .i64 x3, .int .i64 kn] W fun e w' => e = .returned (.int .i64 y3) ∧ w' = W) := fun W => by have := pick_any x3 kn W HX.out.2.2.2 (by omega) (by omega); rwa [← HY.out.2.2] at this
  go_enter Try.func51, Try.ntmps51
  go_wp2_with fail
  refine name_calls (p := fun X => Below w.heap.size w X ∧ X.heap[w.heap.size]? = some (.cells #[.int .i64 lo, .int .i64 kn] 87 (0, 0)) ∧ StBlk X (w.heap.size + 1) 0 0 0 0) ⟨((Below.refl _ _).alloc (Nat.le_refl _) _).alloc (by simp) _, new_old (heap_alloc_new _ _), new_1 _ _ _⟩ ?_
  rintro X ⟨k1, k2, k3⟩
  have d1 := (k1.cell (p := ⟨b, off + 1, none⟩) hb).trans c1
  have d2 := (k1.cell (p := ⟨b, off + 2, none⟩) hb).trans c2
  have d3 := (k1.cell (p := ⟨b, off + 3, none⟩) hb).trans c3
  have hwX := blk_lt k3
  have HXX : Hid (Below w.heap.size w X ∧ X.heap[w.heap.size]? = some (.cells #[.int .i64 lo, .int .i64 kn] 87 (0, 0)) ∧ StBlk X (w.heap.size + 1) 0 0 0 0) := ⟨k1, k2, k3⟩
  have hbX : b < X.heap.size := by omega
  clear k1 k2 k3 c0 c1 c2 c3
  refine (pick_any x0 12 X HX.out.1 (by omega) (by omega)).mono ?_
  rintro e X' ⟨rfl, h⟩
  obtain rfl := h.symm
  rw [HE.out]
  clear h
  go_wp2
  refine wp_stN (T := 78) X.heap.size (by rfl) (by rfl) (by rfl) (by exact heap_alloc_new _ _) (by exact Try.sizeStep) (by rfl) (by exact StBlk.one) ?_
  rintro Y hY hF
  have HI0 : Hid (SI w X.heap.size (1 + 9) Y ∧ Below X.heap.size X Y) := by
    have hb1 : Below X.heap.size X Y := ((Below.refl _ X).alloc (Nat.le_refl _) _).trans (hF.below (by omega) (by simp))
    exact ⟨⟨(hb1.block _ hwX).trans HXX.out.2.2, hY, HXX.out.1.trans (hb1.mono HXX.out.1.size), hwX⟩, hb1⟩
  have e1 := (HI0.out.2.cell (p := ⟨b, off + 1, none⟩) hbX).trans d1
  have e2 := (HI0.out.2.cell (p := ⟨b, off + 2, none⟩) hbX).trans d2
  have e3 := (HI0.out.2.cell (p := ⟨b, off + 3, none⟩) hbX).trans d3
  have hwX0 : w.heap.size < X.heap.size := by omega
  have m0 : Y.cell? ⟨w.heap.size, 0, none⟩ = some (.int .i64 lo) := by rw [blk_cell ((HI0.out.2.block _ hwX0).trans HXX.out.2.1)]; rfl
  have m1 : Y.cell? ⟨w.heap.size, 1, none⟩ = some (.int .i64 kn) := by rw [blk_cell ((HI0.out.2.block _ hwX0).trans HXX.out.2.1)]; rfl
  clear hY hF d1 d2 d3 HXX
  go_wp2_with (go_at_call 30; refine (pick_any x1 4 Y HX.out.2.1 (by omega) (by omega)).mono ?_; rintro e Y' ⟨rfl, h⟩; obtain rfl := h.symm; rw [← HY.out.1]; clear h)
  go_quiet ((go_at_call 30; exact Calls.quiet_of_same (HP2.out _)))
  have f2 : (Y.drewN nq).cell? ⟨b, off + 2, none⟩ = some (.int .i64 x2) := e2
  have f3 : (Y.drewN nq).cell? ⟨b, off + 3, none⟩ = some (.int .i64 x3) := e3
  have n0 : (Y.drewN nq).cell? ⟨w.heap.size, 0, none⟩ = some (.int .i64 lo) := m0
  have n1 : (Y.drewN nq).cell? ⟨w.heap.size, 1, none⟩ = some (.int .i64 kn) := m1
  have HI1 : Hid (SI w X.heap.size (1 + 9) (Y.drewN nq)) := ⟨HI0.out.1.res, HI0.out.1.own, below_drewN HI0.out.1.bel _, HI0.out.1.gt⟩
  clear e1 e2 e3 m0 m1 HI0
  generalize Y.drewN nq = Z at *
  go_wp2
  go_quiet ((go_at_call 30; exact Calls.quiet_of_same (HP3.out _)))
  have g2 : (Z.drewN nq).cell? ⟨b, off + 2, none⟩ = some (.int .i64 x2) := f2
  have HI : Hid (SI w X.heap.size (1 + 9) (Z.drewN nq)) := ⟨HI1.out.res, HI1.out.own, below_drewN HI1.out.bel _, HI1.out.gt⟩
  clear f2 f3 n0 n1 HI1 HP2 HP3
  generalize Z.drewN nq = V at *
  obtain ⟨s0, s1, s2, s3, sf⟩ := HI.out.own.facts
  have hlV := blk_lt HI.out.own
  have hbw : ¬ b = X.heap.size := by omega
  clear hwX hwX0
  generalize X.heap.size = sb at *
  go_wp2
  refine wp_stN (T := 78) (w.heap.size + 1) (by rfl) (by rfl) (by rfl) (by exact (HI.out.res.other (by have := HI.out.gt; omega))) (by exact Try.sizeStep) (by rfl) (by exact StBlk.one) ?_
  rintro U hU hF
  have HU : Hid (StBlk U (w.heap.size + 1) (11) (y1) (0) (0) ∧ Below w.heap.size w U) := ⟨hU, (HI.out.bel.setCell (p := ⟨sb, _, none⟩) (by have := HI.out.gt; show w.heap.size ≤ sb; omega) _).trans (hF.below (by omega) (by have := HI.out.bel.size; simpa using this))⟩
  clear hU hF
  go_wp2
  refine bodyPost_ret (results_cell1 (by rfl) (by rfl) HU.out.1.load) rfl ⟨?_, HU.out.2⟩
  rw [HM.out]
  have hh := HY.out
  obtain ⟨z1, z2, z3⟩ := hh
  unfold mkSt
  rw [HE.out, ← z1, ← z2, ← z3]
  simp [q]
  rfl
set_option maxRecDepth 100000 in
set_option maxHeartbeats 1000000 in
theorem step_9n (b off cap : Nat) (x0 x1 x2 x3 i n lo kn : Int) (w : World) (hb : b < w.heap.size) (h4 : Four w b off x0 x1 x2 x3) (h0 : i64B x0) (h1 : i64B x1) (h2 : i64B x2) (h3 : i64B x3) (hk : 0 < kn) (hk' : kn ≤ 16) (hlo : 0 ≤ lo) (hlo' : lo ≤ 16)
    (hr : 0 ≤ i ∧ i < n ∧ n ≤ 32) (he : pickI x0 12 = 9) (q : ¬ i < 1) :
    Calls Try.prog 51 #[.slice (some ⟨b, off, none⟩) 4 cap, .int .i64 i, .int .i64 n, .agg #[.int .i64 lo, .int .i64 kn]] w fun e w' => Stepped (mkSt x0 x1 x2 x3 i n lo kn) w e w' := by
  obtain ⟨c0, c1, c2, c3⟩ := h4
  obtain ⟨hi, hin, hn⟩ := hr
  have HX : Hid (i64B x0 ∧ i64B x1 ∧ i64B x2 ∧ i64B x3) := ⟨h0, h1, h2, h3⟩
  have HE : Hid (pickI x0 12 = 9) := he
  clear h0 h1 h2 h3 he
  obtain ⟨y1, hy1⟩ : ∃ y, y = pickI x1 4 := ⟨_, rfl⟩
  obtain ⟨y2, hy2⟩ : ∃ y, y = pickI x2 kn := ⟨_, rfl⟩
  obtain ⟨y3, hy3⟩ : ∃ y, y = pickI x3 kn := ⟨_, rfl⟩
  have a3 := pickI_lo x2 hk
  have a4 := pickI_hi x2 hk
  have a5 := pickI_lo x3 hk
  have a6 := pickI_hi x3 hk
  have HY : Hid (y1 = pickI x1 4 ∧ y2 = pickI x2 kn ∧ y3 = pickI x3 kn) := ⟨hy1, hy2, hy3⟩
  rw [← hy2] at a3 a4
  rw [← hy3] at a5 a6
  have u1 := pickI_lo x2 (n := i) (by omega)
  have u2 := pickI_hi x2 (n := i) (by omega)
  clear hy1 hy2 hy3
  obtain ⟨fs, hfs⟩ : ∃ fs, fs = mkSt x0 x1 x2 x3 i n lo kn := ⟨_, rfl⟩
  have HM : Hid (fs = mkSt x0 x1 x2 x3 i n lo kn) := hfs
  rw [← hfs]
  clear hfs
  have w2 : IntKind.i64.wrap (lo + y2) = lo + y2 := by rw [IntKind.wrap_i64]; omega
  have w3 : IntKind.i64.wrap (lo + y3) = lo + y3 := by rw [IntKind.wrap_i64]; omega
  have HP2 : Hid (∀ W : World, Calls Try.prog 30 #[.int .i64 x2, .int .i64 kn] W fun e w' => e = .returned (.int .i64 y2) ∧ w' = W) := fun W => by have := pick_any x2 kn W HX.out.2.2.1 (by omega) (by omega); rwa [← HY.out.2.1] at this
  have HP3 : Hid (∀ W : World, Calls Try.prog 30 #[.int .i64 x3, .int .i64 kn] W fun e w' => e = .returned (.int .i64 y3) ∧ w' = W) := fun W => by have := pick_any x3 kn W HX.out.2.2.2 (by omega) (by omega); rwa [← HY.out.2.2] at this
  go_enter Try.func51, Try.ntmps51
  go_wp2_with fail
  refine name_calls (p := fun X => Below w.heap.size w X ∧ X.heap[w.heap.size]? = some (.cells #[.int .i64 lo, .int .i64 kn] 87 (0, 0)) ∧ StBlk X (w.heap.size + 1) 0 0 0 0) ⟨((Below.refl _ _).alloc (Nat.le_refl _) _).alloc (by simp) _, new_old (heap_alloc_new _ _), new_1 _ _ _⟩ ?_
  rintro X ⟨k1, k2, k3⟩
  have d1 := (k1.cell (p := ⟨b, off + 1, none⟩) hb).trans c1
  have d2 := (k1.cell (p := ⟨b, off + 2, none⟩) hb).trans c2
  have d3 := (k1.cell (p := ⟨b, off + 3, none⟩) hb).trans c3
  have hwX := blk_lt k3
  have HXX : Hid (Below w.heap.size w X ∧ X.heap[w.heap.size]? = some (.cells #[.int .i64 lo, .int .i64 kn] 87 (0, 0)) ∧ StBlk X (w.heap.size + 1) 0 0 0 0) := ⟨k1, k2, k3⟩
  have hbX : b < X.heap.size := by omega
  clear k1 k2 k3 c0 c1 c2 c3
  refine (pick_any x0 12 X HX.out.1 (by omega) (by omega)).mono ?_
  rintro e X' ⟨rfl, h⟩
  obtain rfl := h.symm
  rw [HE.out]
  clear h
  go_wp2
  refine wp_stN (T := 78) X.heap.size (by rfl) (by rfl) (by rfl) (by exact heap_alloc_new _ _) (by exact Try.sizeStep) (by rfl) (by exact StBlk.one) ?_
  rintro Y hY hF
  have HI0 : Hid (SI w X.heap.size (1 + 9) Y ∧ Below X.heap.size X Y) := by
    have hb1 : Below X.heap.size X Y := ((Below.refl _ X).alloc (Nat.le_refl _) _).trans (hF.below (by omega) (by simp))
    exact ⟨⟨(hb1.block _ hwX).trans HXX.out.2.2, hY, HXX.out.1.trans (hb1.mono HXX.out.1.size), hwX⟩, hb1⟩
  have e1 := (HI0.out.2.cell (p := ⟨b, off + 1, none⟩) hbX).trans d1
  have e2 := (HI0.out.2.cell (p := ⟨b, off + 2, none⟩) hbX).trans d2
  have e3 := (HI0.out.2.cell (p := ⟨b, off + 3, none⟩) hbX).trans d3
  have hwX0 : w.heap.size < X.heap.size := by omega
  have m0 : Y.cell? ⟨w.heap.size, 0, none⟩ = some (.int .i64 lo) := by rw [blk_cell ((HI0.out.2.block _ hwX0).trans HXX.out.2.1)]; rfl
  have m1 : Y.cell? ⟨w.heap.size, 1, none⟩ = some (.int .i64 kn) := by rw [blk_cell ((HI0.out.2.block _ hwX0).trans HXX.out.2.1)]; rfl
  clear hY hF d1 d2 d3 HXX
  go_wp2_with (go_at_call 30; refine (pick_any x1 4 Y HX.out.2.1 (by omega) (by omega)).mono ?_; rintro e Y' ⟨rfl, h⟩; obtain rfl := h.symm; rw [← HY.out.1]; clear h)
  go_quiet ((go_at_call 30; exact Calls.quiet_of_same (HP2.out _)))
  have f2 : (Y.drewN nq).cell? ⟨b, off + 2, none⟩ = some (.int .i64 x2) := e2
  have f3 : (Y.drewN nq).cell? ⟨b, off + 3, none⟩ = some (.int .i64 x3) := e3
  have n0 : (Y.drewN nq).cell? ⟨w.heap.size, 0, none⟩ = some (.int .i64 lo) := m0
  have n1 : (Y.drewN nq).cell? ⟨w.heap.size, 1, none⟩ = some (.int .i64 kn) := m1
  have HI1 : Hid (SI w X.heap.size (1 + 9) (Y.drewN nq)) := ⟨HI0.out.1.res, HI0.out.1.own, below_drewN HI0.out.1.bel _, HI0.out.1.gt⟩
  clear e1 e2 e3 m0 m1 HI0
  generalize Y.drewN nq = Z at *
  go_wp2
  go_quiet ((go_at_call 30; exact Calls.quiet_of_same (HP3.out _)))
  have g2 : (Z.drewN nq).cell? ⟨b, off + 2, none⟩ = some (.int .i64 x2) := f2
  have HI : Hid (SI w X.heap.size (1 + 9) (Z.drewN nq)) := ⟨HI1.out.res, HI1.out.own, below_drewN HI1.out.bel _, HI1.out.gt⟩
  clear f2 f3 n0 n1 HI1 HP2 HP3
  generalize Z.drewN nq = V at *
  obtain ⟨s0, s1, s2, s3, sf⟩ := HI.out.own.facts
  have hlV := blk_lt HI.out.own
  have hbw : ¬ b = X.heap.size := by omega
  clear hwX hwX0
  generalize X.heap.size = sb at *
  go_wp2_with (go_at_call 30; refine (pick_any x2 i _ HX.out.2.2.1 (by omega) (by omega)).mono ?_; rintro e w' ⟨rfl, h⟩; obtain rfl := h.symm; clear h)
  refine wp_ldN (T := 78) sb 0 (by rfl) (by rfl) (by exact StBlk.at ((HI.out.own.a _).b _)) (by exact Try.underlying78) (by rfl) (by exact Try.sizeStep) ?_
  go_wp2
  refine wp_stN (T := 78) (w.heap.size + 1) (by rfl) (by rfl) (by rfl) (by exact ((HI.out.res.other (by have := HI.out.gt; omega)).other (by have := HI.out.gt; omega))) (by exact Try.sizeStep) (by rfl) (by exact StBlk.one) ?_
  rintro U hU hF
  have HU : Hid (StBlk U (w.heap.size + 1) (10) (y1) (1 + pickI x2 i) (0) ∧ Below w.heap.size w U) := ⟨hU, ((HI.out.bel.setCell (p := ⟨sb, _, none⟩) (by have := HI.out.gt; show w.heap.size ≤ sb; omega) _).setCell (p := ⟨sb, _, none⟩) (by have := HI.out.gt; show w.heap.size ≤ sb; omega) _).trans (hF.below (by omega) (by have := HI.out.bel.size; simpa using this))⟩
  clear hU hF
  go_wp2
  refine bodyPost_ret (results_cell1 (by rfl) (by rfl) HU.out.1.load) rfl ⟨?_, HU.out.2⟩
  rw [HM.out]
  have hh := HY.out
  obtain ⟨z1, z2, z3⟩ := hh
  unfold mkSt
  rw [HE.out, ← z1, ← z2, ← z3]
  simp
  rw [if_neg (by omega)]
  rfl
set_option maxRecDepth 100000 in
set_option maxHeartbeats 1000000 in
theorem step_10 (b off cap : Nat) (x0 x1 x2 x3 i n lo kn : Int) (w : World) (hb : b < w.heap.size) (h4 : Four w b off x0 x1 x2 x3) (h0 : i64B x0) (h1 : i64B x1) (h2 : i64B x2) (h3 : i64B x3) (hk : 0 < kn) (hk' : kn ≤ 16) (hlo : 0 ≤ lo) (hlo' : lo ≤ 16)
    (hr : 0 ≤ i ∧ i < n ∧ n ≤ 32) (he : pickI x0 12 = 10)  :
    Calls Try.prog 51 #[.slice (some ⟨b, off, none⟩) 4 cap, .int .i64 i, .int .i64 n, .agg #[.int .i64 lo, .int .i64 kn]] w fun e w' => Stepped (mkSt x0 x1 x2 x3 i n lo kn) w e w' := by
  obtain ⟨c0, c1, c2, c3⟩ := h4
  obtain ⟨hi, hin, hn⟩ := hr
  have HX : Hid (i64B x0 ∧ i64B x1 ∧ i64B x2 ∧ i64B x3) := ⟨h0, h1, h2, h3⟩
  have HE : Hid (pickI x0 12 = 10) := he
  clear h0 h1 h2 h3 he
  obtain ⟨y1, hy1⟩ : ∃ y, y = pickI x1 4 := ⟨_, rfl⟩
  obtain ⟨y2, hy2⟩ : ∃ y, y = pickI x2 kn := ⟨_, rfl⟩
  obtain ⟨y3, hy3⟩ : ∃ y, y = pickI x3 kn := ⟨_, rfl⟩
  have a3 := pickI_lo x2 hk
  have a4 := pickI_hi x2 hk
  have a5 := pickI_lo x3 hk
  have a6 := pickI_hi x3 hk
  have HY : Hid (y1 = pickI x1 4 ∧ y2 = pickI x2 kn ∧ y3 = pickI x3 kn) := ⟨hy1, hy2, hy3⟩
  rw [← hy2] at a3 a4
  rw [← hy3] at a5 a6
  clear hy1 hy2 hy3
  obtain ⟨fs, hfs⟩ : ∃ fs, fs = mkSt x0 x1 x2 x3 i n lo kn := ⟨_, rfl⟩
  have HM : Hid (fs = mkSt x0 x1 x2 x3 i n lo kn) := hfs
  rw [← hfs]
  clear hfs
  have w2 : IntKind.i64.wrap (lo + y2) = lo + y2 := by rw [IntKind.wrap_i64]; omega
  have w3 : IntKind.i64.wrap (lo + y3) = lo + y3 := by rw [IntKind.wrap_i64]; omega
  have HP2 : Hid (∀ W : World, Calls Try.prog 30 #[.int .i64 x2, .int .i64 kn] W fun e w' => e = .returned (.int .i64 y2) ∧ w' = W) := fun W => by have := pick_any x2 kn W HX.out.2.2.1 (by omega) (by omega); rwa [← HY.out.2.1] at this
  have HP3 : Hid (∀ W : World, Calls Try.prog 30 #[.int .i64 x3, .int .i64 kn] W fun e w' => e = .returned (.int .i64 y3) ∧ w' = W) := fun W => by have := pick_any x3 kn W HX.out.2.2.2 (by omega) (by omega); rwa [← HY.out.2.2] at this
  go_enter Try.func51, Try.ntmps51
  go_wp2_with fail
  refine name_calls (p := fun X => Below w.heap.size w X ∧ X.heap[w.heap.size]? = some (.cells #[.int .i64 lo, .int .i64 kn] 87 (0, 0)) ∧ StBlk X (w.heap.size + 1) 0 0 0 0) ⟨((Below.refl _ _).alloc (Nat.le_refl _) _).alloc (by simp) _, new_old (heap_alloc_new _ _), new_1 _ _ _⟩ ?_
  rintro X ⟨k1, k2, k3⟩
  have d1 := (k1.cell (p := ⟨b, off + 1, none⟩) hb).trans c1
  have d2 := (k1.cell (p := ⟨b, off + 2, none⟩) hb).trans c2
  have d3 := (k1.cell (p := ⟨b, off + 3, none⟩) hb).trans c3
  have hwX := blk_lt k3
  have HXX : Hid (Below w.heap.size w X ∧ X.heap[w.heap.size]? = some (.cells #[.int .i64 lo, .int .i64 kn] 87 (0, 0)) ∧ StBlk X (w.heap.size + 1) 0 0 0 0) := ⟨k1, k2, k3⟩
  have hbX : b < X.heap.size := by omega
  clear k1 k2 k3 c0 c1 c2 c3
  refine (pick_any x0 12 X HX.out.1 (by omega) (by omega)).mono ?_
  rintro e X' ⟨rfl, h⟩
  obtain rfl := h.symm
  rw [HE.out]
  clear h
  go_wp2
  refine wp_stN (T := 78) X.heap.size (by rfl) (by rfl) (by rfl) (by exact heap_alloc_new _ _) (by exact Try.sizeStep) (by rfl) (by exact StBlk.one) ?_
  rintro Y hY hF
  have HI0 : Hid (SI w X.heap.size (1 + 10) Y ∧ Below X.heap.size X Y) := by
    have hb1 : Below X.heap.size X Y := ((Below.refl _ X).alloc (Nat.le_refl _) _).trans (hF.below (by omega) (by simp))
    exact ⟨⟨(hb1.block _ hwX).trans HXX.out.2.2, hY, HXX.out.1.trans (hb1.mono HXX.out.1.size), hwX⟩, hb1⟩
  have e1 := (HI0.out.2.cell (p := ⟨b, off + 1, none⟩) hbX).trans d1
  have e2 := (HI0.out.2.cell (p := ⟨b, off + 2, none⟩) hbX).trans d2
  have e3 := (HI0.out.2.cell (p := ⟨b, off + 3, none⟩) hbX).trans d3
  have hwX0 : w.heap.size < X.heap.size := by omega
  have m0 : Y.cell? ⟨w.heap.size, 0, none⟩ = some (.int .i64 lo) := by rw [blk_cell ((HI0.out.2.block _ hwX0).trans HXX.out.2.1)]; rfl
  have m1 : Y.cell? ⟨w.heap.size, 1, none⟩ = some (.int .i64 kn) := by rw [blk_cell ((HI0.out.2.block _ hwX0).trans HXX.out.2.1)]; rfl
  clear hY hF d1 d2 d3 HXX
  go_wp2_with (go_at_call 30; refine (pick_any x1 4 Y HX.out.2.1 (by omega) (by omega)).mono ?_; rintro e Y' ⟨rfl, h⟩; obtain rfl := h.symm; rw [← HY.out.1]; clear h)
  go_quiet ((go_at_call 30; exact Calls.quiet_of_same (HP2.out _)))
  have f2 : (Y.drewN nq).cell? ⟨b, off + 2, none⟩ = some (.int .i64 x2) := e2
  have f3 : (Y.drewN nq).cell? ⟨b, off + 3, none⟩ = some (.int .i64 x3) := e3
  have n0 : (Y.drewN nq).cell? ⟨w.heap.size, 0, none⟩ = some (.int .i64 lo) := m0
  have n1 : (Y.drewN nq).cell? ⟨w.heap.size, 1, none⟩ = some (.int .i64 kn) := m1
  have HI1 : Hid (SI w X.heap.size (1 + 10) (Y.drewN nq)) := ⟨HI0.out.1.res, HI0.out.1.own, below_drewN HI0.out.1.bel _, HI0.out.1.gt⟩
  clear e1 e2 e3 m0 m1 HI0
  generalize Y.drewN nq = Z at *
  go_wp2
  go_quiet ((go_at_call 30; exact Calls.quiet_of_same (HP3.out _)))
  have g2 : (Z.drewN nq).cell? ⟨b, off + 2, none⟩ = some (.int .i64 x2) := f2
  have HI : Hid (SI w X.heap.size (1 + 10) (Z.drewN nq)) := ⟨HI1.out.res, HI1.out.own, below_drewN HI1.out.bel _, HI1.out.gt⟩
  clear f2 f3 n0 n1 HI1 HP2 HP3
  generalize Z.drewN nq = V at *
  obtain ⟨s0, s1, s2, s3, sf⟩ := HI.out.own.facts
  have hlV := blk_lt HI.out.own
  have hbw : ¬ b = X.heap.size := by omega
  clear hwX hwX0
  generalize X.heap.size = sb at *
  go_wp2
  refine wp_ldN (T := 78) sb 0 (by rfl) (by rfl) (by exact StBlk.at (HI.out.own.a _)) (by exact Try.underlying78) (by rfl) (by exact Try.sizeStep) ?_
  go_wp2
  refine wp_stN (T := 78) (w.heap.size + 1) (by rfl) (by rfl) (by rfl) (by exact (HI.out.res.other (by have := HI.out.gt; omega))) (by exact Try.sizeStep) (by rfl) (by exact StBlk.one) ?_
  rintro U hU hF
  have HU : Hid (StBlk U (w.heap.size + 1) (11) (y1) (0) (0) ∧ Below w.heap.size w U) := ⟨hU, (HI.out.bel.setCell (p := ⟨sb, _, none⟩) (by have := HI.out.gt; show w.heap.size ≤ sb; omega) _).trans (hF.below (by omega) (by have := HI.out.bel.size; simpa using this))⟩
  clear hU hF
  go_wp2
  refine bodyPost_ret (results_cell1 (by rfl) (by rfl) HU.out.1.load) rfl ⟨?_, HU.out.2⟩
  rw [HM.out]
  have hh := HY.out
  obtain ⟨z1, z2, z3⟩ := hh
  unfold mkSt
  rw [HE.out, ← z1, ← z2, ← z3]
  simp
  rfl
set_option maxRecDepth 100000 in
set_option maxHeartbeats 1000000 in
theorem step_11 (b off cap : Nat) (x0 x1 x2 x3 i n lo kn : Int) (w : World) (hb : b < w.heap.size) (h4 : Four w b off x0 x1 x2 x3) (h0 : i64B x0) (h1 : i64B x1) (h2 : i64B x2) (h3 : i64B x3) (hk : 0 < kn) (hk' : kn ≤ 16) (hlo : 0 ≤ lo) (hlo' : lo ≤ 16)
    (hr : 0 ≤ i ∧ i < n ∧ n ≤ 32) (he : pickI x0 12 = 11)  :
    Calls Try.prog 51 #[.slice (some ⟨b, off, none⟩) 4 cap, .int .i64 i, .int .i64 n, .agg #[.int .i64 lo, .int .i64 kn]] w fun e w' => Stepped (mkSt x0 x1 x2 x3 i n lo kn) w e w' := by
  obtain ⟨c0, c1, c2, c3⟩ := h4
  obtain ⟨hi, hin, hn⟩ := hr
  have HX : Hid (i64B x0 ∧ i64B x1 ∧ i64B x2 ∧ i64B x3) := ⟨h0, h1, h2, h3⟩
  have HE : Hid (pickI x0 12 = 11) := he
  clear h0 h1 h2 h3 he
  obtain ⟨y1, hy1⟩ : ∃ y, y = pickI x1 4 := ⟨_, rfl⟩
  obtain ⟨y2, hy2⟩ : ∃ y, y = pickI x2 kn := ⟨_, rfl⟩
  obtain ⟨y3, hy3⟩ : ∃ y, y = pickI x3 kn := ⟨_, rfl⟩
  have a3 := pickI_lo x2 hk
  have a4 := pickI_hi x2 hk
  have a5 := pickI_lo x3 hk
  have a6 := pickI_hi x3 hk
  have HY : Hid (y1 = pickI x1 4 ∧ y2 = pickI x2 kn ∧ y3 = pickI x3 kn) := ⟨hy1, hy2, hy3⟩
  rw [← hy2] at a3 a4
  rw [← hy3] at a5 a6
  clear hy1 hy2 hy3
  obtain ⟨fs, hfs⟩ : ∃ fs, fs = mkSt x0 x1 x2 x3 i n lo kn := ⟨_, rfl⟩
  have HM : Hid (fs = mkSt x0 x1 x2 x3 i n lo kn) := hfs
  rw [← hfs]
  clear hfs
  have w2 : IntKind.i64.wrap (lo + y2) = lo + y2 := by rw [IntKind.wrap_i64]; omega
  have w3 : IntKind.i64.wrap (lo + y3) = lo + y3 := by rw [IntKind.wrap_i64]; omega
  have HP2 : Hid (∀ W : World, Calls Try.prog 30 #[.int .i64 x2, .int .i64 kn] W fun e w' => e = .returned (.int .i64 y2) ∧ w' = W) := fun W => by have := pick_any x2 kn W HX.out.2.2.1 (by omega) (by omega); rwa [← HY.out.2.1] at this
  have HP3 : Hid (∀ W : World, Calls Try.prog 30 #[.int .i64 x3, .int .i64 kn] W fun e w' => e = .returned (.int .i64 y3) ∧ w' = W) := fun W => by have := pick_any x3 kn W HX.out.2.2.2 (by omega) (by omega); rwa [← HY.out.2.2] at this
  go_enter Try.func51, Try.ntmps51
  go_wp2_with fail
  refine name_calls (p := fun X => Below w.heap.size w X ∧ X.heap[w.heap.size]? = some (.cells #[.int .i64 lo, .int .i64 kn] 87 (0, 0)) ∧ StBlk X (w.heap.size + 1) 0 0 0 0) ⟨((Below.refl _ _).alloc (Nat.le_refl _) _).alloc (by simp) _, new_old (heap_alloc_new _ _), new_1 _ _ _⟩ ?_
  rintro X ⟨k1, k2, k3⟩
  have d1 := (k1.cell (p := ⟨b, off + 1, none⟩) hb).trans c1
  have d2 := (k1.cell (p := ⟨b, off + 2, none⟩) hb).trans c2
  have d3 := (k1.cell (p := ⟨b, off + 3, none⟩) hb).trans c3
  have hwX := blk_lt k3
  have HXX : Hid (Below w.heap.size w X ∧ X.heap[w.heap.size]? = some (.cells #[.int .i64 lo, .int .i64 kn] 87 (0, 0)) ∧ StBlk X (w.heap.size + 1) 0 0 0 0) := ⟨k1, k2, k3⟩
  have hbX : b < X.heap.size := by omega
  clear k1 k2 k3 c0 c1 c2 c3
  refine (pick_any x0 12 X HX.out.1 (by omega) (by omega)).mono ?_
  rintro e X' ⟨rfl, h⟩
  obtain rfl := h.symm
  rw [HE.out]
  clear h
  go_wp2
  refine wp_stN (T := 78) X.heap.size (by rfl) (by rfl) (by rfl) (by exact heap_alloc_new _ _) (by exact Try.sizeStep) (by rfl) (by exact StBlk.one) ?_
  rintro Y hY hF
  have HI0 : Hid (SI w X.heap.size (1 + 11) Y ∧ Below X.heap.size X Y) := by
    have hb1 : Below X.heap.size X Y := ((Below.refl _ X).alloc (Nat.le_refl _) _).trans (hF.below (by omega) (by simp))
    exact ⟨⟨(hb1.block _ hwX).trans HXX.out.2.2, hY, HXX.out.1.trans (hb1.mono HXX.out.1.size), hwX⟩, hb1⟩
  have e1 := (HI0.out.2.cell (p := ⟨b, off + 1, none⟩) hbX).trans d1
  have e2 := (HI0.out.2.cell (p := ⟨b, off + 2, none⟩) hbX).trans d2
  have e3 := (HI0.out.2.cell (p := ⟨b, off + 3, none⟩) hbX).trans d3
  have hwX0 : w.heap.size < X.heap.size := by omega
  have m0 : Y.cell? ⟨w.heap.size, 0, none⟩ = some (.int .i64 lo) := by rw [blk_cell ((HI0.out.2.block _ hwX0).trans HXX.out.2.1)]; rfl
  have m1 : Y.cell? ⟨w.heap.size, 1, none⟩ = some (.int .i64 kn) := by rw [blk_cell ((HI0.out.2.block _ hwX0).trans HXX.out.2.1)]; rfl
  clear hY hF d1 d2 d3 HXX
  go_wp2_with (go_at_call 30; refine (pick_any x1 4 Y HX.out.2.1 (by omega) (by omega)).mono ?_; rintro e Y' ⟨rfl, h⟩; obtain rfl := h.symm; rw [← HY.out.1]; clear h)
  go_quiet ((go_at_call 30; exact Calls.quiet_of_same (HP2.out _)))
  have f2 : (Y.drewN nq).cell? ⟨b, off + 2, none⟩ = some (.int .i64 x2) := e2
  have f3 : (Y.drewN nq).cell? ⟨b, off + 3, none⟩ = some (.int .i64 x3) := e3
  have n0 : (Y.drewN nq).cell? ⟨w.heap.size, 0, none⟩ = some (.int .i64 lo) := m0
  have n1 : (Y.drewN nq).cell? ⟨w.heap.size, 1, none⟩ = some (.int .i64 kn) := m1
  have HI1 : Hid (SI w X.heap.size (1 + 11) (Y.drewN nq)) := ⟨HI0.out.1.res, HI0.out.1.own, below_drewN HI0.out.1.bel _, HI0.out.1.gt⟩
  clear e1 e2 e3 m0 m1 HI0
  generalize Y.drewN nq = Z at *
  go_wp2
  go_quiet ((go_at_call 30; exact Calls.quiet_of_same (HP3.out _)))
  have g2 : (Z.drewN nq).cell? ⟨b, off + 2, none⟩ = some (.int .i64 x2) := f2
  have HI : Hid (SI w X.heap.size (1 + 11) (Z.drewN nq)) := ⟨HI1.out.res, HI1.out.own, below_drewN HI1.out.bel _, HI1.out.gt⟩
  clear f2 f3 n0 n1 HI1 HP2 HP3
  generalize Z.drewN nq = V at *
  obtain ⟨s0, s1, s2, s3, sf⟩ := HI.out.own.facts
  have hlV := blk_lt HI.out.own
  have hbw : ¬ b = X.heap.size := by omega
  clear hwX hwX0
  generalize X.heap.size = sb at *
  go_wp2
  refine wp_ldN (T := 78) sb 0 (by rfl) (by rfl) (by exact StBlk.at HI.out.own) (by exact Try.underlying78) (by rfl) (by exact Try.sizeStep) ?_
  go_wp2
  refine wp_stN (T := 78) (w.heap.size + 1) (by rfl) (by rfl) (by rfl) (by exact HI.out.res) (by exact Try.sizeStep) (by rfl) (by exact StBlk.one) ?_
  rintro U hU hF
  have HU : Hid (StBlk U (w.heap.size + 1) (12) (0) (0) (0) ∧ Below w.heap.size w U) := ⟨hU, HI.out.bel.trans (hF.below (by omega) (by have := HI.out.bel.size; simpa using this))⟩
  clear hU hF
  go_wp2
  refine bodyPost_ret (results_cell1 (by rfl) (by rfl) HU.out.1.load) rfl ⟨?_, HU.out.2⟩
  rw [HM.out]
  have hh := HY.out
  obtain ⟨z1, z2, z3⟩ := hh
  unfold mkSt
  rw [HE.out, ← z1, ← z2, ← z3]
  simp
  rfl
end Go.Proofs.Ytlbmcdoldnajoab
namespace Go.Proofs.Ytlbmcdoldnajoab
open Go.RowKit
theorem step_any (b off cap : Nat) (x0 x1 x2 x3 i n lo kn : Int) (w : World) (hb : b < w.heap.size) (h4 : Four w b off x0 x1 x2 x3) (h0 : i64B x0) (h1 : i64B x1) (h2 : i64B x2) (h3 : i64B x3) (hk : 0 < kn) (hk' : kn ≤ 16) (hlo : 0 ≤ lo) (hlo' : lo ≤ 16)
    (hr : 0 ≤ i ∧ i < n ∧ n ≤ 32) :
    Calls Try.prog 51 #[.slice (some ⟨b, off, none⟩) 4 cap, .int .i64 i, .int .i64 n, .agg #[.int .i64 lo, .int .i64 kn]] w fun e w' => Stepped (mkSt x0 x1 x2 x3 i n lo kn) w e w' := by
  have b1 := pickI_lo x0 (n := 12) (by omega)
  have b2 := pickI_hi x0 (n := 12) (by omega)
  rcases (show pickI x0 12 = 0 ∨ pickI x0 12 = 1 ∨ pickI x0 12 = 2 ∨ pickI x0 12 = 3 ∨ pickI x0 12 = 4 ∨ pickI x0 12 = 5 ∨ pickI x0 12 = 6 ∨ pickI x0 12 = 7 ∨ pickI x0 12 = 8 ∨ pickI x0 12 = 9 ∨ pickI x0 12 = 10 ∨ pickI x0 12 = 11 by omega) with e | e | e | e | e | e | e | e | e | e | e | e
  · exact step_0 b off cap x0 x1 x2 x3 i n lo kn w hb h4 h0 h1 h2 h3 hk hk' hlo hlo' hr e
  · exact step_1 b off cap x0 x1 x2 x3 i n lo kn w hb h4 h0 h1 h2 h3 hk hk' hlo hlo' hr e
  · exact step_2 b off cap x0 x1 x2 x3 i n lo kn w hb h4 h0 h1 h2 h3 hk hk' hlo hlo' hr e
  · exact step_3 b off cap x0 x1 x2 x3 i n lo kn w hb h4 h0 h1 h2 h3 hk hk' hlo hlo' hr e
  · by_cases q : lo + pickI x3 kn < lo + pickI x2 kn
    · exact step_4y b off cap x0 x1 x2 x3 i n lo kn w hb h4 h0 h1 h2 h3 hk hk' hlo hlo' hr e q
    · exact step_4n b off cap x0 x1 x2 x3 i n lo kn w hb h4 h0 h1 h2 h3 hk hk' hlo hlo' hr e q
  · by_cases q : lo + pickI x3 kn < lo + pickI x2 kn
    · exact step_5y b off cap x0 x1 x2 x3 i n lo kn w hb h4 h0 h1 h2 h3 hk hk' hlo hlo' hr e q
    · exact step_5n b off cap x0 x1 x2 x3 i n lo kn w hb h4 h0 h1 h2 h3 hk hk' hlo hlo' hr e q
  · exact step_6 b off cap x0 x1 x2 x3 i n lo kn w hb h4 h0 h1 h2 h3 hk hk' hlo hlo' hr e
  · exact step_7 b off cap x0 x1 x2 x3 i n lo kn w hb h4 h0 h1 h2 h3 hk hk' hlo hlo' hr e
  · by_cases q : n - i - 1 < 1
    · exact step_8y b off cap x0 x1 x2 x3 i n lo kn w hb h4 h0 h1 h2 h3 hk hk' hlo hlo' hr e q
    · exact step_8n b off cap x0 x1 x2 x3 i n lo kn w hb h4 h0 h1 h2 h3 hk hk' hlo hlo' hr e q
  · by_cases q : i < 1
    · exact step_9y b off cap x0 x1 x2 x3 i n lo kn w hb h4 h0 h1 h2 h3 hk hk' hlo hlo' hr e q
    · exact step_9n b off cap x0 x1 x2 x3 i n lo kn w hb h4 h0 h1 h2 h3 hk hk' hlo hlo' hr e q
  · exact step_10 b off cap x0 x1 x2 x3 i n lo kn w hb h4 h0 h1 h2 h3 hk hk' hlo hlo' hr e
  · exact step_11 b off cap x0 x1 x2 x3 i n lo kn w hb h4 h0 h1 h2 h3 hk hk' hlo hlo' hr e
/-- the step at place i -/
def stAtL (xs : List Int) (n : Nat) (lo kn : Int) (i : Nat) : St := mkSt (xs.getD (4 * i) 0) (xs.getD (4 * i + 1) 0) (xs.getD (4 * i + 2) 0) (xs.getD (4 * i + 3) 0) i n lo kn
def mkN (xs : List Int) : Nat := min 32 (xs.length / 4)
def mkT (xs : List Int) (n : Nat) (lo kn : Int) (t : Nat) : List St := (List.range t).map (stAtL xs n lo kn)
def mkL (xs : List Int) (lo kn : Int) : List St := mkT xs (mkN xs) lo kn (mkN xs)
theorem mkT_succ (xs : List Int) (n : Nat) (lo kn : Int) (t : Nat) : mkT xs n lo kn (t + 1) = mkT xs n lo kn t ++ [stAtL xs n lo kn t] := by simp [mkT, List.range_succ]
theorem mkT_len (xs : List Int) (n : Nat) (lo kn : Int) (t : Nat) : (mkT xs n lo kn t).length = t := by simp [mkT]
def StepsNew (l : List St) (w : World) (e : Ending) (w' : World) : Prop := ∃ v, e = .returned v ∧ w'.ownsRow w.heap.size 78 4 v l.length (stCells l) ∧ Below w.heap.size w w'
def StepsRel (l : List St) (w : World) (out : Value) (wr : World) : Prop := wr.ownsRow w.heap.size 78 4 out l.length (stCells l) ∧ Below w.heap.size w wr
theorem StBlk.all4 {w : World} {b : Nat} {p q r s p' q' r' s' : Int} (h : StBlk w b p q r s) : StBlk ((((w.setCell ⟨b, 0, none⟩ (.int .i64 p')).setCell ⟨b, 1, none⟩ (.int .i64 q')).setCell ⟨b, 2, none⟩ (.int .i64 r')).setCell ⟨b, 3, none⟩ (.int .i64 s')) b p' q' r' s' :=
  ((((show StBlk (w.setCell ⟨b, 0, none⟩ (.int .i64 p')) b p' q r s from (blk_set h _ _).trans rfl).a q').b r').c s')
theorem name_exit {E : Exit → Act → World → Prop} {x : Exit} {a : Act} {W : World} {p : World → Prop} (h : p W) (k : ∀ W', p W' → E x a W') : E x a W := k W h
set_option maxRecDepth 100000 in
set_option maxHeartbeats 2000000 in
theorem made_at (xs : List Int) (g off cap N : Nat) (lo kn : Int) (w : World) (hg : g < w.heap.size) (hN : N = xs.length) (hN1 : N ≤ 140737488351232) (hcap : N ≤ cap) (hi64 : ∀ x ∈ xs, i64B x) (hp : ∀ i, i < xs.length → w.cell? ⟨g, off + i, none⟩ = some (.int .i64 (xs.getD i 0)))
    (hk : 0 < kn) (hk' : kn ≤ 16) (hlo : 0 ≤ lo) (hlo' : lo ≤ 16) :
    Calls Try.prog 31 #[.slice (some ⟨g, off, none⟩) N cap, .agg #[.int .i64 lo, .int .i64 kn]] w fun e w' => StepsNew (mkL xs lo kn) w e w' := by
  have HN : Hid (N = xs.length) := hN
  have HP : Hid (∀ i, i < xs.length → w.cell? ⟨g, off + i, none⟩ = some (.int .i64 (xs.getD i 0))) := hp
  have HI : Hid (∀ x ∈ xs, i64B x) := hi64
  obtain ⟨L, hL⟩ : ∃ L, L = mkL xs lo kn := ⟨_, rfl⟩
  have HL : Hid (L = mkL xs lo kn) := hL
  rw [← hL]
  clear hN hp hi64 hL
  obtain ⟨i0, hi, hz0, hz1, hz2⟩ := info_parts Try.infoStep
  obtain ⟨q, hq⟩ : ∃ q : Nat, q = N / 4 := ⟨_, rfl⟩
  have hdiv : (N : Int) / 4 = (q : Int) := by omega
  have hqN : q * 4 ≤ N := by omega
  have HQ : Hid (q = N / 4) := hq
  clear hq
  have hwq : IntKind.i64.wrap (q : Int) = (q : Int) := by rw [IntKind.wrap_i64]; omega
  by_cases hbig : 32 < q
  · have hb' : (32 : Int) < (q : Int) := by omega
    have HNN : Hid (32 = mkN xs) := by show 32 = min 32 (xs.length / 4); rw [← HN.out, ← HQ.out]; omega
    go_enter Try.func31, Try.ntmps31
    go_wp2
    go_loopw [6, 7] (fun out i wr => ∃ j : Nat, j ≤ 32 ∧ i = .int .i64 j ∧ StepsRel (mkT xs 32 lo kn j) (w.alloc (.cells #[.int .i64 lo, .int .i64 kn] 87)) out wr) (fun _ i _ => 32 - (intOf i).toNat)
    case atStart => exact ⟨0, Nat.zero_le _, rfl, World.ownsRow_nil _ _ _ _, Below.refl _ _⟩
    case round =>
      obtain ⟨j, hj, rfl, hown, hbel⟩ := hrel
      have HO : Hid (_root_.Go.World.ownsRow _ (w.alloc (.cells #[.int .i64 lo, .int .i64 kn] 87)).heap.size 78 4 _ (mkT xs 32 lo kn j).length (stCells (mkT xs 32 lo kn j))) := hown
      have HBl : Hid (Below (w.alloc (.cells #[.int .i64 lo, .int .i64 kn] 87)).heap.size (w.alloc (.cells #[.int .i64 lo, .int .i64 kn] 87)) wr) := hbel
      have hblk : wr.heap[w.heap.size]? = some (.cells #[.int .i64 lo, .int .i64 kn] 87 (0, 0)) := (hbel.block _ (by simp)).trans (heap_alloc_new w _)
      have k0 : wr.cell? ⟨w.heap.size, 0, none⟩ = some (.int .i64 lo) := by rw [blk_cell hblk]; rfl
      have k1 : wr.cell? ⟨w.heap.size, 1, none⟩ = some (.int .i64 kn) := by rw [blk_cell hblk]; rfl
      have hwsz : w.heap.size < wr.heap.size := blk_lt hblk
      have HB0 : Hid (Below w.heap.size w wr) := ((Below.refl _ _).alloc (Nat.le_refl _) _).trans (hbel.mono (by simp))
      clear hown hbel hblk
      by_cases hlt : j < 32
      · have m1 : (j : Int) < (32 : Int) := by omega
        have w1 : IntKind.i64.wrap (4 * (j : Int)) = 4 * (j : Int) := by rw [IntKind.wrap_i64]; omega
        have w2 : IntKind.i64.wrap (4 * (j : Int) + 4) = 4 * (j : Int) + 4 := by rw [IntKind.wrap_i64]; omega
        have hcN : 4 * j + 4 ≤ N := by omega
        have s1 : (0 : Int) ≤ 4 * (j : Int) := by omega
        have s2 : 4 * (j : Int) ≤ 4 * (j : Int) + 4 := by omega
        have s3 : 4 * (j : Int) + 4 ≤ (cap : Int) := by omega
        have t1 : (4 * (j : Int)).toNat = 4 * j := by omega
        have t2 : (4 * (j : Int) + 4).toNat = 4 * j + 4 := by omega
        have t3 : ¬ cap = 4 * j := by omega
        obtain ⟨s, hs⟩ : ∃ s, s = stAtL xs 32 lo kn j := ⟨_, rfl⟩
        have HSt : Hid (s = stAtL xs 32 lo kn j) := hs
        have HStep : Hid (∀ W, Below w.heap.size w W → Calls Try.prog 51 #[.slice (some ⟨g, off + 4 * j, none⟩) 4 (cap - 4 * j), .int .i64 j, .int .i64 32, .agg #[.int .i64 lo, .int .i64 kn]] W fun e w' => e = .returned (.agg #[.int .i64 s.op, .int .i64 s.a, .int .i64 s.b, .int .i64 s.c]) ∧ Below W.heap.size W w') := fun W hW => by
          have e := HN.out
          have hm : ∀ k, k < xs.length → i64B (xs.getD k 0) := fun k hk => HI.out _ (by simp [List.getD, hk])
          have h4 : Four W g (off + 4 * j) (xs.getD (4 * j) 0) (xs.getD (4 * j + 1) 0) (xs.getD (4 * j + 2) 0) (xs.getD (4 * j + 3) 0) := by
            refine ⟨?_, ?_, ?_, ?_⟩
            · exact (hW.cell (p := ⟨g, off + 4 * j, none⟩) hg).trans (HP.out _ (by omega))
            · have := (hW.cell (p := ⟨g, off + (4 * j + 1), none⟩) hg).trans (HP.out _ (by omega)); rwa [← Nat.add_assoc] at this
            · have := (hW.cell (p := ⟨g, off + (4 * j + 2), none⟩) hg).trans (HP.out _ (by omega)); rwa [← Nat.add_assoc] at this
            · have := (hW.cell (p := ⟨g, off + (4 * j + 3), none⟩) hg).trans (HP.out _ (by omega)); rwa [← Nat.add_assoc] at this
          refine (step_any g (off + 4 * j) (cap - 4 * j) _ _ _ _ j (32 : Int) lo kn W (Nat.lt_of_lt_of_le hg hW.size) h4 (hm _ (by omega)) (hm _ (by omega)) (hm _ (by omega)) (hm _ (by omega)) hk hk' hlo hlo' ⟨by omega, by omega, by omega⟩).mono fun e w' h => ?_
          rw [HSt.out]
          exact h
        obtain ⟨p0, p1, p2, p3⟩ := s
        simp only at HStep
        clear hs
        go_wp2
        go_region_with (go_at_call 51; first | (refine (HStep.out _ HB0.out.drew).mono ?_; rintro e W2 ⟨rfl, hb2⟩; have HB2 : Hid (Below wr.heap.size wr W2) := (Below.refl _ wr).drew.trans hb2; clear hb2) | (refine (HStep.out _ (HB0.out.alloc (Nat.le_of_lt hwsz) _).drew).mono ?_; rintro e W2 ⟨rfl, hb2⟩; have hz : StBlk W2 wr.heap.size 0 0 0 0 := (hb2.block _ (by show wr.heap.size < (wr.alloc _).heap.size; simp)).trans (heap_alloc_new wr _); obtain ⟨z0, z1, z2, z3, zf⟩ := hz.facts; have HZ : Hid (StBlk W2 wr.heap.size 0 0 0 0) := hz; have HB2 : Hid (Below wr.heap.size wr W2) := ((Below.refl _ wr).alloc (Nat.le_refl _) _).drew.trans (hb2.mono (by show wr.heap.size ≤ (wr.alloc _).heap.size; simp)); clear hb2 hz))
        · refine name_exit (p := fun U => StBlk U W2.heap.size p0 p1 p2 p3 ∧ Below wr.heap.size wr U) ⟨heap_alloc_new _ _, HB2.out.alloc HB2.out.size _⟩ ?_
          rintro U ⟨hS, hBU⟩
          obtain ⟨s0, s1, s2', s3', sf⟩ := hS.facts
          have hsz1 := HBl.out.size
          have HOU : Hid (U.ownsRow (w.alloc (.cells #[.int .i64 lo, .int .i64 kn] 87)).heap.size 78 4 u6 (mkT xs 32 lo kn j).length (stCells (mkT xs 32 lo kn j))) := owns_keep HO.out hBU
          have HBU : Hid (Below (w.alloc (.cells #[.int .i64 lo, .int .i64 kn] 87)).heap.size (w.alloc (.cells #[.int .i64 lo, .int .i64 kn] 87)) U) := HBl.out.trans (hBU.mono hsz1)
          have hbs := blk_lt hS
          have hszU := HBU.out.size
          clear hS hBU
          go_wp2_with (at_builtin; refine wpList_append_lies _ (by rfl) (.tmp 30) (.tmp 32) 42 (by rfl) (w.alloc (.cells #[.int .i64 lo, .int .i64 kn] 87)).heap.size 78 i0 _ 4 32 Try.underlying42 hi hz0 hz1 hz2 (by rfl) (by decide) _ _ _ (by rfl) (HOU.out.alloc _) ⟨U.heap.size, 0, none⟩ 1 1 [.int .i64 p0, .int .i64 p1, .int .i64 p2, .int .i64 p3] (by rfl) (by rfl) ?_ ?_ (by decide) ?_ ?_ ?_ _ (by rfl) ?_)
          · exact World.news_of_block (heap_alloc_new _ _)
          · intro u hu; simp at hu; rcases hu with rfl | rfl | rfl | rfl <;> rfl
          · have := mkT_len xs 32 lo kn j; unfold maxLen; omega
          · have := mkT_len xs 32 lo kn j; omega
          · simp at hszU ⊢; omega
          · intro g1 cap1 W3 hown3 hgrow3 hat hlt3
            have HO3 : Hid (StepsRel (mkT xs 32 lo kn (j + 1)) (w.alloc (.cells #[.int .i64 lo, .int .i64 kn] 87)) (.slice (some ⟨g1, 0, none⟩) ((mkT xs 32 lo kn j).length + 1) cap1) W3) := by
              refine ⟨?_, (HBU.out.alloc hszU _).grown hgrow3 (by simp at hszU ⊢; omega) (fun k hk => owns_ge HOU.out hk)⟩
              rw [mkT_succ, stCells_append, List.length_append, ← HSt.out]
              rw [World.size_alloc]
              exact hown3
            clear hown3 hgrow3 hat hlt3
            go_wp2
            go_roundw
            case rel => exact ⟨j + 1, by omega, by go_num, HO3.out⟩
            case measure => simp [intOf]; omega
        · refine name_exit (p := fun U => StBlk U wr.heap.size p0 p1 p2 p3 ∧ Below wr.heap.size wr U) ⟨HZ.out.all4, (((HB2.out.setCell (p := ⟨wr.heap.size, _, none⟩) (Nat.le_refl _) _).setCell (p := ⟨wr.heap.size, _, none⟩) (Nat.le_refl _) _).setCell (p := ⟨wr.heap.size, _, none⟩) (Nat.le_refl _) _).setCell (p := ⟨wr.heap.size, _, none⟩) (Nat.le_refl _) _⟩ ?_
          rintro U ⟨hS, hBU⟩
          obtain ⟨s0, s1, s2', s3', sf⟩ := hS.facts
          have hsz1 := HBl.out.size
          have HOU : Hid (U.ownsRow (w.alloc (.cells #[.int .i64 lo, .int .i64 kn] 87)).heap.size 78 4 u6 (mkT xs 32 lo kn j).length (stCells (mkT xs 32 lo kn j))) := owns_keep HO.out hBU
          have HBU : Hid (Below (w.alloc (.cells #[.int .i64 lo, .int .i64 kn] 87)).heap.size (w.alloc (.cells #[.int .i64 lo, .int .i64 kn] 87)) U) := HBl.out.trans (hBU.mono hsz1)
          have hbs := blk_lt hS
          have hszU := HBU.out.size
          clear hS hBU
          go_wp2_with (at_builtin; refine wpList_append_lies _ (by rfl) (.tmp 30) (.tmp 32) 42 (by rfl) (w.alloc (.cells #[.int .i64 lo, .int .i64 kn] 87)).heap.size 78 i0 _ 4 32 Try.underlying42 hi hz0 hz1 hz2 (by rfl) (by decide) _ _ _ (by rfl) (HOU.out.alloc _) ⟨U.heap.size, 0, none⟩ 1 1 [.int .i64 p0, .int .i64 p1, .int .i64 p2, .int .i64 p3] (by rfl) (by rfl) ?_ ?_ (by decide) ?_ ?_ ?_ _ (by rfl) ?_)
          · exact World.news_of_block (heap_alloc_new _ _)
          · intro u hu; simp at hu; rcases hu with rfl | rfl | rfl | rfl <;> rfl
          · have := mkT_len xs 32 lo kn j; unfold maxLen; omega
          · have := mkT_len xs 32 lo kn j; omega
          · simp at hszU ⊢; omega
          · intro g1 cap1 W3 hown3 hgrow3 hat hlt3
            have HO3 : Hid (StepsRel (mkT xs 32 lo kn (j + 1)) (w.alloc (.cells #[.int .i64 lo, .int .i64 kn] 87)) (.slice (some ⟨g1, 0, none⟩) ((mkT xs 32 lo kn j).length + 1) cap1) W3) := by
              refine ⟨?_, (HBU.out.alloc hszU _).grown hgrow3 (by simp at hszU ⊢; omega) (fun k hk => owns_ge HOU.out hk)⟩
              rw [mkT_succ, stCells_append, List.length_append, ← HSt.out]
              rw [World.size_alloc]
              exact hown3
            clear hown3 hgrow3 hat hlt3
            go_wp2
            go_roundw
            case rel => exact ⟨j + 1, by omega, by go_num, HO3.out⟩
            case measure => simp [intOf]; omega
        · refine name_exit (p := fun U => StBlk U wr.heap.size p0 p1 p2 p3 ∧ Below wr.heap.size wr U) ⟨HZ.out.all4, (((HB2.out.setCell (p := ⟨wr.heap.size, _, none⟩) (Nat.le_refl _) _).setCell (p := ⟨wr.heap.size, _, none⟩) (Nat.le_refl _) _).setCell (p := ⟨wr.heap.size, _, none⟩) (Nat.le_refl _) _).setCell (p := ⟨wr.heap.size, _, none⟩) (Nat.le_refl _) _⟩ ?_
          rintro U ⟨hS, hBU⟩
          obtain ⟨s0, s1, s2', s3', sf⟩ := hS.facts
          have hsz1 := HBl.out.size
          have HOU : Hid (U.ownsRow (w.alloc (.cells #[.int .i64 lo, .int .i64 kn] 87)).heap.size 78 4 u6 (mkT xs 32 lo kn j).length (stCells (mkT xs 32 lo kn j))) := owns_keep HO.out hBU
          have HBU : Hid (Below (w.alloc (.cells #[.int .i64 lo, .int .i64 kn] 87)).heap.size (w.alloc (.cells #[.int .i64 lo, .int .i64 kn] 87)) U) := HBl.out.trans (hBU.mono hsz1)
          have hbs := blk_lt hS
          have hszU := HBU.out.size
          clear hS hBU
          go_wp2_with (at_builtin; refine wpList_append_lies _ (by rfl) (.tmp 30) (.tmp 32) 42 (by rfl) (w.alloc (.cells #[.int .i64 lo, .int .i64 kn] 87)).heap.size 78 i0 _ 4 32 Try.underlying42 hi hz0 hz1 hz2 (by rfl) (by decide) _ _ _ (by rfl) (HOU.out.alloc _) ⟨U.heap.size, 0, none⟩ 1 1 [.int .i64 p0, .int .i64 p1, .int .i64 p2, .int .i64 p3] (by rfl) (by rfl) ?_ ?_ (by decide) ?_ ?_ ?_ _ (by rfl) ?_)
          · exact World.news_of_block (heap_alloc_new _ _)
          · intro u hu; simp at hu; rcases hu with rfl | rfl | rfl | rfl <;> rfl
          · have := mkT_len xs 32 lo kn j; unfold maxLen; omega
          · have := mkT_len xs 32 lo kn j; omega
          · simp at hszU ⊢; omega
          · intro g1 cap1 W3 hown3 hgrow3 hat hlt3
            have HO3 : Hid (StepsRel (mkT xs 32 lo kn (j + 1)) (w.alloc (.cells #[.int .i64 lo, .int .i64 kn] 87)) (.slice (some ⟨g1, 0, none⟩) ((mkT xs 32 lo kn j).length + 1) cap1) W3) := by
              refine ⟨?_, (HBU.out.alloc hszU _).grown hgrow3 (by simp at hszU ⊢; omega) (fun k hk => owns_ge HOU.out hk)⟩
              rw [mkT_succ, stCells_append, List.length_append, ← HSt.out]
              rw [World.size_alloc]
              exact hown3
            clear hown3 hgrow3 hat hlt3
            go_wp2
            go_roundw
            case rel => exact ⟨j + 1, by omega, by go_num, HO3.out⟩
            case measure => simp [intOf]; omega
      · have m1 : ¬ ((j : Int) < (32 : Int)) := by omega
        go_wp2
        go_ret
        obtain rfl : j = 32 := by omega
        refine ⟨_, rfl, ?_, HB0.out⟩
        rw [HL.out, mkL, ← HNN.out]
        exact owns_base HO.out (by simp)
  · have hb' : ¬ ((32 : Int) < (q : Int)) := by omega
    have HNN : Hid (q = mkN xs) := by show q = min 32 (xs.length / 4); rw [← HN.out, ← HQ.out]; omega
    go_enter Try.func31, Try.ntmps31
    go_wp2
    go_loopw [6, 7] (fun out i wr => ∃ j : Nat, j ≤ q ∧ i = .int .i64 j ∧ StepsRel (mkT xs q lo kn j) (w.alloc (.cells #[.int .i64 lo, .int .i64 kn] 87)) out wr) (fun _ i _ => q - (intOf i).toNat)
    case atStart => exact ⟨0, Nat.zero_le _, rfl, World.ownsRow_nil _ _ _ _, Below.refl _ _⟩
    case round =>
      obtain ⟨j, hj, rfl, hown, hbel⟩ := hrel
      have HO : Hid (_root_.Go.World.ownsRow _ (w.alloc (.cells #[.int .i64 lo, .int .i64 kn] 87)).heap.size 78 4 _ (mkT xs q lo kn j).length (stCells (mkT xs q lo kn j))) := hown
      have HBl : Hid (Below (w.alloc (.cells #[.int .i64 lo, .int .i64 kn] 87)).heap.size (w.alloc (.cells #[.int .i64 lo, .int .i64 kn] 87)) wr) := hbel
      have hblk : wr.heap[w.heap.size]? = some (.cells #[.int .i64 lo, .int .i64 kn] 87 (0, 0)) := (hbel.block _ (by simp)).trans (heap_alloc_new w _)
      have k0 : wr.cell? ⟨w.heap.size, 0, none⟩ = some (.int .i64 lo) := by rw [blk_cell hblk]; rfl
      have k1 : wr.cell? ⟨w.heap.size, 1, none⟩ = some (.int .i64 kn) := by rw [blk_cell hblk]; rfl
      have hwsz : w.heap.size < wr.heap.size := blk_lt hblk
      have HB0 : Hid (Below w.heap.size w wr) := ((Below.refl _ _).alloc (Nat.le_refl _) _).trans (hbel.mono (by simp))
      clear hown hbel hblk
      by_cases hlt : j < q
      · have m1 : (j : Int) < (q : Int) := by omega
        have w1 : IntKind.i64.wrap (4 * (j : Int)) = 4 * (j : Int) := by rw [IntKind.wrap_i64]; omega
        have w2 : IntKind.i64.wrap (4 * (j : Int) + 4) = 4 * (j : Int) + 4 := by rw [IntKind.wrap_i64]; omega
        have hcN : 4 * j + 4 ≤ N := by omega
        have s1 : (0 : Int) ≤ 4 * (j : Int) := by omega
        have s2 : 4 * (j : Int) ≤ 4 * (j : Int) + 4 := by omega
        have s3 : 4 * (j : Int) + 4 ≤ (cap : Int) := by omega
        have t1 : (4 * (j : Int)).toNat = 4 * j := by omega
        have t2 : (4 * (j : Int) + 4).toNat = 4 * j + 4 := by omega
        have t3 : ¬ cap = 4 * j := by omega
        obtain ⟨s, hs⟩ : ∃ s, s = stAtL xs q lo kn j := ⟨_, rfl⟩
        have HSt : Hid (s = stAtL xs q lo kn j) := hs
        have HStep : Hid (∀ W, Below w.heap.size w W → Calls Try.prog 51 #[.slice (some ⟨g, off + 4 * j, none⟩) 4 (cap - 4 * j), .int .i64 j, .int .i64 (q : Int), .agg #[.int .i64 lo, .int .i64 kn]] W fun e w' => e = .returned (.agg #[.int .i64 s.op, .int .i64 s.a, .int .i64 s.b, .int .i64 s.c]) ∧ Below W.heap.size W w') := fun W hW => by
          have e := HN.out
          have hm : ∀ k, k < xs.length → i64B (xs.getD k 0) := fun k hk => HI.out _ (by simp [List.getD, hk])
          have h4 : Four W g (off + 4 * j) (xs.getD (4 * j) 0) (xs.getD (4 * j + 1) 0) (xs.getD (4 * j + 2) 0) (xs.getD (4 * j + 3) 0) := by
            refine ⟨?_, ?_, ?_, ?_⟩
            · exact (hW.cell (p := ⟨g, off + 4 * j, none⟩) hg).trans (HP.out _ (by omega))
            · have := (hW.cell (p := ⟨g, off + (4 * j + 1), none⟩) hg).trans (HP.out _ (by omega)); rwa [← Nat.add_assoc] at this
            · have := (hW.cell (p := ⟨g, off + (4 * j + 2), none⟩) hg).trans (HP.out _ (by omega)); rwa [← Nat.add_assoc] at this
            · have := (hW.cell (p := ⟨g, off + (4 * j + 3), none⟩) hg).trans (HP.out _ (by omega)); rwa [← Nat.add_assoc] at this
          refine (step_any g (off + 4 * j) (cap - 4 * j) _ _ _ _ j (q : Int) lo kn W (Nat.lt_of_lt_of_le hg hW.size) h4 (hm _ (by omega)) (hm _ (by omega)) (hm _ (by omega)) (hm _ (by omega)) hk hk' hlo hlo' ⟨by omega, by omega, by omega⟩).mono fun e w' h => ?_
          rw [HSt.out]
          exact h
        obtain ⟨p0, p1, p2, p3⟩ := s
        simp only at HStep
        clear hs
        go_wp2
        go_region_with (go_at_call 51; first | (refine (HStep.out _ HB0.out.drew).mono ?_; rintro e W2 ⟨rfl, hb2⟩; have HB2 : Hid (Below wr.heap.size wr W2) := (Below.refl _ wr).drew.trans hb2; clear hb2) | (refine (HStep.out _ (HB0.out.alloc (Nat.le_of_lt hwsz) _).drew).mono ?_; rintro e W2 ⟨rfl, hb2⟩; have hz : StBlk W2 wr.heap.size 0 0 0 0 := (hb2.block _ (by show wr.heap.size < (wr.alloc _).heap.size; simp)).trans (heap_alloc_new wr _); obtain ⟨z0, z1, z2, z3, zf⟩ := hz.facts; have HZ : Hid (StBlk W2 wr.heap.size 0 0 0 0) := hz; have HB2 : Hid (Below wr.heap.size wr W2) := ((Below.refl _ wr).alloc (Nat.le_refl _) _).drew.trans (hb2.mono (by show wr.heap.size ≤ (wr.alloc _).heap.size; simp)); clear hb2 hz))
        · refine name_exit (p := fun U => StBlk U W2.heap.size p0 p1 p2 p3 ∧ Below wr.heap.size wr U) ⟨heap_alloc_new _ _, HB2.out.alloc HB2.out.size _⟩ ?_
          rintro U ⟨hS, hBU⟩
          obtain ⟨s0, s1, s2', s3', sf⟩ := hS.facts
          have hsz1 := HBl.out.size
          have HOU : Hid (U.ownsRow (w.alloc (.cells #[.int .i64 lo, .int .i64 kn] 87)).heap.size 78 4 u6 (mkT xs q lo kn j).length (stCells (mkT xs q lo kn j))) := owns_keep HO.out hBU
          have HBU : Hid (Below (w.alloc (.cells #[.int .i64 lo, .int .i64 kn] 87)).heap.size (w.alloc (.cells #[.int .i64 lo, .int .i64 kn] 87)) U) := HBl.out.trans (hBU.mono hsz1)
          have hbs := blk_lt hS
          have hszU := HBU.out.size
          clear hS hBU
          go_wp2_with (at_builtin; refine wpList_append_lies _ (by rfl) (.tmp 30) (.tmp 32) 42 (by rfl) (w.alloc (.cells #[.int .i64 lo, .int .i64 kn] 87)).heap.size 78 i0 _ 4 32 Try.underlying42 hi hz0 hz1 hz2 (by rfl) (by decide) _ _ _ (by rfl) (HOU.out.alloc _) ⟨U.heap.size, 0, none⟩ 1 1 [.int .i64 p0, .int .i64 p1, .int .i64 p2, .int .i64 p3] (by rfl) (by rfl) ?_ ?_ (by decide) ?_ ?_ ?_ _ (by rfl) ?_)
          · exact World.news_of_block (heap_alloc_new _ _)
          · intro u hu; simp at hu; rcases hu with rfl | rfl | rfl | rfl <;> rfl
          · have := mkT_len xs q lo kn j; unfold maxLen; omega
          · have := mkT_len xs q lo kn j; omega
          · simp at hszU ⊢; omega
          · intro g1 cap1 W3 hown3 hgrow3 hat hlt3
            have HO3 : Hid (StepsRel (mkT xs q lo kn (j + 1)) (w.alloc (.cells #[.int .i64 lo, .int .i64 kn] 87)) (.slice (some ⟨g1, 0, none⟩) ((mkT xs q lo kn j).length + 1) cap1) W3) := by
              refine ⟨?_, (HBU.out.alloc hszU _).grown hgrow3 (by simp at hszU ⊢; omega) (fun k hk => owns_ge HOU.out hk)⟩
              rw [mkT_succ, stCells_append, List.length_append, ← HSt.out]
              rw [World.size_alloc]
              exact hown3
            clear hown3 hgrow3 hat hlt3
            go_wp2
            go_roundw
            case rel => exact ⟨j + 1, by omega, by go_num, HO3.out⟩
            case measure => simp [intOf]; omega
        · refine name_exit (p := fun U => StBlk U wr.heap.size p0 p1 p2 p3 ∧ Below wr.heap.size wr U) ⟨HZ.out.all4, (((HB2.out.setCell (p := ⟨wr.heap.size, _, none⟩) (Nat.le_refl _) _).setCell (p := ⟨wr.heap.size, _, none⟩) (Nat.le_refl _) _).setCell (p := ⟨wr.heap.size, _, none⟩) (Nat.le_refl _) _).setCell (p := ⟨wr.heap.size, _, none⟩) (Nat.le_refl _) _⟩ ?_
          rintro U ⟨hS, hBU⟩
          obtain ⟨s0, s1, s2', s3', sf⟩ := hS.facts
          have hsz1 := HBl.out.size
          have HOU : Hid (U.ownsRow (w.alloc (.cells #[.int .i64 lo, .int .i64 kn] 87)).heap.size 78 4 u6 (mkT xs q lo kn j).length (stCells (mkT xs q lo kn j))) := owns_keep HO.out hBU
          have HBU : Hid (Below (w.alloc (.cells #[.int .i64 lo, .int .i64 kn] 87)).heap.size (w.alloc (.cells #[.int .i64 lo, .int .i64 kn] 87)) U) := HBl.out.trans (hBU.mono hsz1)
          have hbs := blk_lt hS
          have hszU := HBU.out.size
          clear hS hBU
          go_wp2_with (at_builtin; refine wpList_append_lies _ (by rfl) (.tmp 30) (.tmp 32) 42 (by rfl) (w.alloc (.cells #[.int .i64 lo, .int .i64 kn] 87)).heap.size 78 i0 _ 4 32 Try.underlying42 hi hz0 hz1 hz2 (by rfl) (by decide) _ _ _ (by rfl) (HOU.out.alloc _) ⟨U.heap.size, 0, none⟩ 1 1 [.int .i64 p0, .int .i64 p1, .int .i64 p2, .int .i64 p3] (by rfl) (by rfl) ?_ ?_ (by decide) ?_ ?_ ?_ _ (by rfl) ?_)
          · exact World.news_of_block (heap_alloc_new _ _)
          · intro u hu; simp at hu; rcases hu with rfl | rfl | rfl | rfl <;> rfl
          · have := mkT_len xs q lo kn j; unfold maxLen; omega
          · have := mkT_len xs q lo kn j; omega
          · simp at hszU ⊢; omega
          · intro g1 cap1 W3 hown3 hgrow3 hat hlt3
            have HO3 : Hid (StepsRel (mkT xs q lo kn (j + 1)) (w.alloc (.cells #[.int .i64 lo, .int .i64 kn] 87)) (.slice (some ⟨g1, 0, none⟩) ((mkT xs q lo kn j).length + 1) cap1) W3) := by
              refine ⟨?_, (HBU.out.alloc hszU _).grown hgrow3 (by simp at hszU ⊢; omega) (fun k hk => owns_ge HOU.out hk)⟩
              rw [mkT_succ, stCells_append, List.length_append, ← HSt.out]
              rw [World.size_alloc]
              exact hown3
            clear hown3 hgrow3 hat hlt3
            go_wp2
            go_roundw
            case rel => exact ⟨j + 1, by omega, by go_num, HO3.out⟩
            case measure => simp [intOf]; omega
        · refine name_exit (p := fun U => StBlk U wr.heap.size p0 p1 p2 p3 ∧ Below wr.heap.size wr U) ⟨HZ.out.all4, (((HB2.out.setCell (p := ⟨wr.heap.size, _, none⟩) (Nat.le_refl _) _).setCell (p := ⟨wr.heap.size, _, none⟩) (Nat.le_refl _) _).setCell (p := ⟨wr.heap.size, _, none⟩) (Nat.le_refl _) _).setCell (p := ⟨wr.heap.size, _, none⟩) (Nat.le_refl _) _⟩ ?_
          rintro U ⟨hS, hBU⟩
          obtain ⟨s0, s1, s2', s3', sf⟩ := hS.facts
          have hsz1 := HBl.out.size
          have HOU : Hid (U.ownsRow (w.alloc (.cells #[.int .i64 lo, .int .i64 kn] 87)).heap.size 78 4 u6 (mkT xs q lo kn j).length (stCells (mkT xs q lo kn j))) := owns_keep HO.out hBU
          have HBU : Hid (Below (w.alloc (.cells #[.int .i64 lo, .int .i64 kn] 87)).heap.size (w.alloc (.cells #[.int .i64 lo, .int .i64 kn] 87)) U) := HBl.out.trans (hBU.mono hsz1)
          have hbs := blk_lt hS
          have hszU := HBU.out.size
          clear hS hBU
          go_wp2_with (at_builtin; refine wpList_append_lies _ (by rfl) (.tmp 30) (.tmp 32) 42 (by rfl) (w.alloc (.cells #[.int .i64 lo, .int .i64 kn] 87)).heap.size 78 i0 _ 4 32 Try.underlying42 hi hz0 hz1 hz2 (by rfl) (by decide) _ _ _ (by rfl) (HOU.out.alloc _) ⟨U.heap.size, 0, none⟩ 1 1 [.int .i64 p0, .int .i64 p1, .int .i64 p2, .int .i64 p3] (by rfl) (by rfl) ?_ ?_ (by decide) ?_ ?_ ?_ _ (by rfl) ?_)
          · exact World.news_of_block (heap_alloc_new _ _)
          · intro u hu; simp at hu; rcases hu with rfl | rfl | rfl | rfl <;> rfl
          · have := mkT_len xs q lo kn j; unfold maxLen; omega
          · have := mkT_len xs q lo kn j; omega
          · simp at hszU ⊢; omega
          · intro g1 cap1 W3 hown3 hgrow3 hat hlt3
            have HO3 : Hid (StepsRel (mkT xs q lo kn (j + 1)) (w.alloc (.cells #[.int .i64 lo, .int .i64 kn] 87)) (.slice (some ⟨g1, 0, none⟩) ((mkT xs q lo kn j).length + 1) cap1) W3) := by
              refine ⟨?_, (HBU.out.alloc hszU _).grown hgrow3 (by simp at hszU ⊢; omega) (fun k hk => owns_ge HOU.out hk)⟩
              rw [mkT_succ, stCells_append, List.length_append, ← HSt.out]
              rw [World.size_alloc]
              exact hown3
            clear hown3 hgrow3 hat hlt3
            go_wp2
            go_roundw
            case rel => exact ⟨j + 1, by omega, by go_num, HO3.out⟩
            case measure => simp [intOf]; omega
      · have m1 : ¬ ((j : Int) < (q : Int)) := by omega
        go_wp2
        go_ret
        obtain rfl : j = q := by omega
        refine ⟨_, rfl, ?_, HB0.out⟩
        rw [HL.out, mkL, ← HNN.out]
        exact owns_base HO.out (by simp)
set_option maxRecDepth 100000 in
set_option maxHeartbeats 400000 in
theorem made_none (ao : Option Addr) (cap : Nat) (lo kn : Int) (w : World) :
    Calls Try.prog 31 #[.slice ao 0 cap, .agg #[.int .i64 lo, .int .i64 kn]] w fun e w' => StepsNew [] w e w' := by
  go_enter Try.func31, Try.ntmps31
  go_wp2
  go_loop [6, 7] (fun out i => out = .slice none 0 0 ∧ i = .int .i64 0) (fun _ _ => 0)
  case atStart => exact ⟨rfl, rfl⟩
  case round =>
    obtain ⟨rfl, rfl⟩ := hrel
    go_wp2
    go_ret
    exact ⟨_, rfl, World.ownsRow_nil _ _ _ _, (Below.refl _ _).alloc (Nat.le_refl _) _⟩
theorem made_any (v : Value) (xs : List Int) (lo kn : Int) (w : World) (hi : ∀ x ∈ xs, i64B x) (h : IntsV w v xs) (hc : ∀ ao n cap, v = .slice ao n cap → n ≤ cap) (hk : 0 < kn) (hk' : kn ≤ 16) (hlo : 0 ≤ lo) (hlo' : lo ≤ 16) :
    Calls Try.prog 31 #[v, .agg #[.int .i64 lo, .int .i64 kn]] w fun e w' => StepsNew (mkL xs lo kn) w e w' := by
  obtain ⟨ao, cap, rfl, hm, h⟩ := h
  rcases h with rfl | ⟨b, off, rfl, hb, hs⟩
  · exact made_none ao cap lo kn w
  · exact made_at xs b off cap _ lo kn w hb rfl hm (hc _ _ _ rfl) hi hs hk hk' hlo hlo'
end Go.Proofs.Ytlbmcdoldnajoab
