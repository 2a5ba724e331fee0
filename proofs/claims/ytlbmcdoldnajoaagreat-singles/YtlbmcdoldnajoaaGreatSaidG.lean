import Derived.Test.YtlbmcdoldnajoaaGreatLawG
import Derived.Test.YtlbmcdoldnajoaaGreatPNew
import Derived.Test.YtlbmcdoldnajoaaGreatLawO
import Derived.Test.YtlbmcdoldnajoaaGreatFrA
import Derived.SizedLaws
import Derived.JoinedCond
set_option maxRecDepth 100000
set_option maxHeartbeats 1000000
namespace Go.Proofs.YtlbmcdoldnajoaaGreat
open Go.RowKit
theorem some_any (w : World) : Calls Tryz.prog 6 #[] w fun e w' => e = .returned (confV 2 4 20 1) ∧ Below w.heap.size w w' := by
  go_enter Tryz.func6, Tryz.ntmps6
  go_wp2
  exact bodyPost_ret (v := confV 2 4 20 1) (by simp [results, Tryz.results6, go_sem, confV]) rfl ⟨rfl, (Below.refl _ _).alloc (Nat.le_refl _) _⟩
theorem LA.start (K : DeskKit) (Inv : DeskM → Prop) (W0 : World) (one : Bool) (t : Obj) (ht : t = .cells #[.slice none 0 0, .bool one, .slice none 0 0, .slice none 0 0] 30) :
    LA K Inv W0.heap.size (fun k => if k = W0.heap.size then 1 else 0) (W0.alloc t) W0.heap.size (.slice none 0 0) one (.slice none 0 0) (.slice none 0 0) [] [] [] := by
  subst ht
  exact { lw := ⟨Nat.le_refl _, heap_alloc_new _ _, World.ownsRow_nil _ _ _ _, World.ownsRow_nil _ _ _ _, fun i v h => by simp at h, fun i v h => by simp at h, rfl, rfl⟩
          lo := fun k hk => by
            rcases hk with hk | hk | hk | ⟨i, v, hv, _⟩ | ⟨i, v, hv, _⟩
            · rw [if_pos hk]
            · cases hk
            · cases hk
            · simp at hv
            · simp at hv
          row := World.ownsRow_nil _ _ _ _
          ro := fun k hk => by cases hk
          pr := fun i hi => absurd hi (Nat.not_lt_zero _)
          px := fun i hi => absurd hi (Nat.not_lt_zero _)
          py := fun i hi => absurd hi (Nat.not_lt_zero _)
          inv := fun i hi => absurd hi (Nat.not_lt_zero _)
          ge := fun k hk => by
            by_cases e : k = W0.heap.size
            · omega
            · rw [if_neg e] at hk; exact absurd rfl hk }
theorem LA.reinv {K : DeskKit} {Inv Inv' : DeskM → Prop} {B : Nat} {own : Nat → Nat} {W : World} {pb : Nat} {dv : Value} {one : Bool} {iv pv : Value} {vs ps : List Value} {ds : List DP} (h : LA K Inv B own W pb dv one iv pv vs ps ds) (hi : ∀ i, i < ds.length → Inv' (ds.getD i dp0).d) : LA K Inv' B own W pb dv one iv pv vs ps ds :=
  ⟨h.lw, h.lo, h.row, h.ro, h.pr, h.px, h.py, hi, h.ge⟩
theorem UR.bel {W0 : World} {pb : Nat} {one : Bool} {j : Nat} {W : World} (h : UR W0 pb one j W) : Below W0.heap.size W0 W := by
  obtain ⟨_, _, _, _, _, _, _, _, h2, _⟩ := h
  exact h2
theorem UR.whole {W0 : World} {pb : Nat} {one : Bool} {j : Nat} {W : World} (h : UR W0 pb one j W) (hj : j ≤ 2000000) :
    Calls Tryz.prog 9 #[.pointer (some ⟨pb, 0, none⟩)] W fun e W' => e = .returned (.bool true) ∧ Below W.heap.size W W' := by
  obtain ⟨own, dv, iv, pv, vs, ps, ds, h1, h2, h3, h4, h5, h6, h7⟩ := h
  obtain ⟨ia, ic, rfl⟩ := owns_form h1.lw.ints
  obtain ⟨pa, pc, rfl⟩ := owns_form h1.lw.prs
  exact whole_any _ W pb dv one ia vs.length ic pa ps.length pc vs ps rfl rfl (by omega) (by omega) h1.lw
theorem UR.asked {W0 : World} {pb : Nat} {one : Bool} {j : Nat} {W : World} (h : UR W0 pb one j W) (hj : j ≤ 2000000) :
    Calls Tryz.prog 10 #[.pointer (some ⟨pb, 0, none⟩)] W fun e W' => e = .returned (.bool true) ∧ Below W0.heap.size W0 W' := by
  obtain ⟨own, dv, iv, pv, vs, ps, ds, h1, h2, h3, h4, h5, h6, h7⟩ := h
  refine (asked_any kitP (fun d => DU d ∧ Bd (64 * j) d) _ own W pb dv one iv pv vs ps ds (h1.reinv (fun i hi => ⟨h1.inv i hi, h5 i hi⟩)) (fun d hd => ?_) (by omega) (by omega)).mono ?_
  · have hs := small_of hd.1 hd.2 (by omega)
    exact ⟨hs.1, hs.2.2.2.2.1, fun k hk => told_200 hd.1.1 k hk⟩
  · rintro e W' ⟨he, _, _, _, _, _, _, hb⟩
    exact ⟨he, h2.trans hb⟩
def op0 : OpM := ⟨0, 0, 0, 0, none, 0, [], none, 0, [], 0, 0, 0, 0⟩
def opCells (o : OpM) : List Value := [.int .i64 o.kind, .int .i64 o.desk, .int .i64 o.a, .int .i64 o.n, .slice o.sa o.l.length o.sc, .slice o.pa o.ml.length o.pc, .int .i64 o.c1, .int .i64 o.c2, .int .i64 o.c3, .int .i64 o.c4]
def SopAt (W0 : World) (v : Value) (S : List OpM) : Prop := (∃ ao cap, v = .slice ao S.length cap ∧ (S = [] ∨ ∃ b off, ao = some ⟨b, off, none⟩ ∧ b < W0.heap.size ∧ ∀ i, i < S.length → ∀ k, k < 10 → W0.cell? ⟨b, off + i * 10 + k, none⟩ = (opCells (S.getD i op0))[k]?)) ∧ ∀ o ∈ S, OpOK W0 o
theorem upto_any (one : Bool) (W : World) (v : Value) (S : List OpM) (hS : SopAt W v S) (hl : S.length ≤ 1048576) :
    Calls Tryz.prog 5 #[v, .bool one] W fun e w' => e = .returned (.int .i64 (-1)) ∧ Below W.heap.size W w' := by
  have HS : Hid (SopAt W v S ∧ S.length ≤ 1048576) := ⟨hS, hl⟩
  obtain ⟨⟨ao, cap, rfl, hcl⟩, _⟩ := hS
  obtain ⟨n, hn⟩ : ∃ n, n = S.length := ⟨_, rfl⟩
  have HN : Hid (n = S.length) := hn
  rw [← hn]
  have hn1 : n ≤ 1048576 := by omega
  have HC : Hid (S = [] ∨ ∃ b off, ao = some ⟨b, off, none⟩ ∧ b < W.heap.size ∧ ∀ i, i < S.length → ∀ k, k < 10 → W.cell? ⟨b, off + i * 10 + k, none⟩ = (opCells (S.getD i op0))[k]?) := hcl
  clear hl hcl hn
  go_enter Tryz.func5, Tryz.ntmps5
  go_wp2_with fail
  refine name_calls (p := fun X => Below W.heap.size W X ∧ LA kitP DU W.heap.size (fun k => if k = W.heap.size then 1 else 0) X W.heap.size (.slice none 0 0) one (.slice none 0 0) (.slice none 0 0) [] [] []) ⟨(Below.refl _ _).alloc (Nat.le_refl _) _, LA.start kitP DU W one _ rfl⟩ ?_
  rintro X ⟨k1, k2⟩
  have HX : Hid (Below W.heap.size W X ∧ LA kitP DU W.heap.size (fun k => if k = W.heap.size then 1 else 0) X W.heap.size (.slice none 0 0) one (.slice none 0 0) (.slice none 0 0) [] [] []) := ⟨k1, k2⟩
  clear k1 k2
  refine (some_any X).mono ?_
  rintro e W1 ⟨rfl, hb1⟩
  have HB1 : Hid (Below X.heap.size X W1) := hb1
  clear hb1
  unfold confV
  go_wp2_with fail
  refine name_calls (p := fun Y => Below X.heap.size X Y) (HB1.out.trans (HB1.out.size |> fun hs => ((Below.refl _ _).alloc (Nat.le_refl _) _).mono hs)) ?_
  intro Y hY
  have HY : Hid (LA kitP DU W.heap.size (fun k => if k = W.heap.size then 1 else 0) Y W.heap.size (.slice none 0 0) one (.slice none 0 0) (.slice none 0 0) [] [] [] ∧ Below W.heap.size W Y) := ⟨HX.out.2.below hY, HX.out.1.trans (hY.mono HX.out.1.size)⟩
  clear hY
  refine (openedL_any kitP DU _ _ Y _ _ one _ _ [] [] [] 2 4 20 1 HY.out.1 (by simp) (fun cf hc => du0 hc)).mono ?_
  rintro e W2 ⟨rfl, own2, dv2, ds2, hL2, hb2, hc2⟩
  have hcf : confB (adj one 2) 4 20 1 = true := by cases one <;> rfl
  obtain ⟨t, rfl, ht⟩ : ∃ t : DP, ds2 = [] ++ [t] ∧ t.d = desk0 ⟨(adj one 2).toNat, 4, 20, 1⟩ := by
    rcases hc2 with ⟨_, t, h1, h2⟩ | ⟨h1, _⟩
    · exact ⟨t, h1, h2⟩
    · rw [hcf] at h1; cases h1
  obtain ⟨da, dc, hdv⟩ := owns_form hL2.row
  have c0 : W2.cell? ⟨W.heap.size, 0, none⟩ = some (.slice da 1 dc) := by
    rw [blk_cell hL2.lw.blk, hdv]
    rfl
  have HU : Hid (UR W W.heap.size one 0 W2) := by
    refine ⟨own2, dv2, _, _, [], [], _, hL2, HY.out.2.trans hb2, ⟨by simp, by simp⟩, ?_, fun i hi => ?_, by simp, by simp⟩
    · rw [pollsN_snoc, ht]
      simp [pollsN, desk0]
    · have hi : i < 1 := hi
      have e : i = 0 := by omega
      subst e
      show Bd _ t.d
      rw [ht]
      exact bd0 _
  have hpb : W.heap.size < W2.heap.size := blk_lt hL2.lw.blk
  clear hL2 hb2 hc2 hcf ht hdv HX HY HB1
  go_wp2
  go_loopw [7, 8] (fun ok x wr => ∃ i : Nat, i ≤ n ∧ x = .int .i64 i ∧ ok = .bool true ∧ UR W W.heap.size one i wr) (fun _ x _ => n - (intOf x).toNat)
  case atStart => exact ⟨0, Nat.zero_le _, rfl, rfl, HU.out⟩
  case round =>
    obtain ⟨i, hi, rfl, rfl, hur⟩ := hrel
    have HR : Hid (UR W W.heap.size one i wr) := hur
    clear hur HU c0 hpb
    by_cases hlt : i < n
    · have m1 : (i : Int) < (n : Int) := by omega
      have hil : i < S.length := by rw [← HN.out]; exact hlt
      rcases HC.out with hnil | ⟨sb, off, rfl, hsb, hcl⟩
      · rw [hnil] at hil; exact absurd hil (Nat.not_lt_zero _)
      have hsl : sb < wr.heap.size := Nat.lt_of_lt_of_le hsb HR.out.bel.size
      have hok := HS.out.1.2 (S.getD i op0) (by simp [List.getD, hil])
      have hcs : ∀ k, k < 10 → wr.cell? ⟨sb, off + i * 10 + k, none⟩ = (opCells (S.getD i op0))[k]? := fun k hk => (HR.out.bel.cell (p := ⟨sb, off + i * 10 + k, none⟩) hsb).trans (hcl i hil k hk)
      generalize S.getD i op0 = o at hok hcs
      have HO : Hid (OpOK W o) := hok
      clear hcl hil hok
      have s0 : wr.cell? ⟨sb, off + i * 10, none⟩ = some (.int .i64 o.kind) := hcs 0 (by decide)
      have s1 := hcs 1 (by decide)
      have s2 := hcs 2 (by decide)
      have s3 := hcs 3 (by decide)
      have s4 := hcs 4 (by decide)
      have s5 := hcs 5 (by decide)
      have s6 := hcs 6 (by decide)
      have s7 := hcs 7 (by decide)
      have s8 := hcs 8 (by decide)
      have s9 := hcs 9 (by decide)
      simp only [opCells, List.getElem?_cons_succ, List.getElem?_cons_zero] at s1 s2 s3 s4 s5 s6 s7 s8 s9
      have HSt : Hid (Calls Tryz.prog 8 #[.pointer (some ⟨W.heap.size, 0, none⟩), .agg #[.int .i64 o.kind, .int .i64 o.desk, .int .i64 o.a, .int .i64 o.n, .slice o.sa o.l.length o.sc, .slice o.pa o.ml.length o.pc, .int .i64 o.c1, .int .i64 o.c2, .int .i64 o.c3, .int .i64 o.c4]] wr fun e W' => e = .returned (.bool true) ∧ UR W W.heap.size one (i + 1) W') := step_any W W.heap.size one i wr o HR.out (by omega) HO.out
      clear hcs
      cases one with
      | false =>
        go_wp2_with fail
        refine HSt.out.mono ?_
        rintro e W3 ⟨rfl, hu⟩
        have HU3 : Hid (UR W W.heap.size false (i + 1) W3) := hu
        clear hu HSt s0 s1 s2 s3 s4 s5 s6 s7 s8 s9
        have hWh := HU3.out.whole (by omega)
        go_wp2_with fail
        refine hWh.mono ?_
        clear hWh
        rintro e W4 ⟨rfl, hb⟩
        have HU4 : Hid (UR W W.heap.size false (i + 1) W4) := HU3.out.below hb
        clear hb
        go_wp2
        go_roundw
        case rel => exact ⟨i + 1, by omega, by go_num, rfl, HU4.out⟩
        case measure => simp [intOf]; omega
      | true =>
        by_cases hk : o.kind = 7
        · have HU4 : Hid (UR W W.heap.size true (i + 1) wr) := HR.out.more
          go_wp2
          go_roundw
          case rel => exact ⟨i + 1, by omega, by go_num, rfl, HU4.out⟩
          case measure => simp [intOf]; omega
        · go_wp2_with fail
          refine HSt.out.mono ?_
          rintro e W3 ⟨rfl, hu⟩
          have HU3 : Hid (UR W W.heap.size true (i + 1) W3) := hu
          clear hu HSt s0 s1 s2 s3 s4 s5 s6 s7 s8 s9
          have hWh := HU3.out.whole (by omega)
          go_wp2_with fail
          refine hWh.mono ?_
          clear hWh
          rintro e W4 ⟨rfl, hb⟩
          have HU4 : Hid (UR W W.heap.size true (i + 1) W4) := HU3.out.below hb
          clear hb
          go_wp2
          go_roundw
          case rel => exact ⟨i + 1, by omega, by go_num, rfl, HU4.out⟩
          case measure => simp [intOf]; omega
    · obtain rfl : i = n := by omega
      have hA := HR.out.asked (by omega)
      go_wp2_with fail
      refine hA.mono ?_
      clear hA
      rintro e W5 ⟨rfl, hb⟩
      have HE : Hid (Below W.heap.size W W5) := hb
      clear hb
      go_wp2
      go_ret
      exact ⟨rfl, HE.out⟩
theorem all_walk (W : World) (v : Value) (S : List OpM) (hS : SopAt W v S) (hl : S.length ≤ 1048576) :
    Calls Tryz.prog 4 #[v] W fun e w' => e = .returned (.bool true) ∧ Below W.heap.size W w' := by
  have HC : Hid (Calls Tryz.prog 5 #[v, .bool false] W fun e w' => e = .returned (.int .i64 (-1)) ∧ Below W.heap.size W w') := upto_any false W v S hS hl
  obtain ⟨⟨ao, cap, rfl, _⟩, _⟩ := hS
  clear hl
  go_enter Tryz.func4, Tryz.ntmps4
  go_wp2_with fail
  refine HC.out.mono ?_
  rintro e W1 ⟨rfl, hb⟩
  have HB : Hid (Below W.heap.size W W1) := hb
  clear hb HC
  go_wp2
  go_ret
  exact ⟨rfl, HB.out⟩
theorem singles_walk (W : World) (v : Value) (S : List OpM) (hS : SopAt W v S) (hl : S.length ≤ 1048576) :
    Calls Tryz.prog 3 #[v] W fun e w' => e = .returned (.bool true) ∧ Below W.heap.size W w' := by
  have HC : Hid (Calls Tryz.prog 5 #[v, .bool true] W fun e w' => e = .returned (.int .i64 (-1)) ∧ Below W.heap.size W w') := upto_any true W v S hS hl
  obtain ⟨⟨ao, cap, rfl, _⟩, _⟩ := hS
  clear hl
  go_enter Tryz.func3, Tryz.ntmps3
  go_wp2_with fail
  refine HC.out.mono ?_
  rintro e W1 ⟨rfl, hb⟩
  have HB : Hid (Below W.heap.size W W1) := hb
  clear hb HC
  go_wp2
  go_ret
  exact ⟨rfl, HB.out⟩
theorem Tryz.own : ownKnob Tryz.prog.godebug = none := by kernel_rfl
theorem Tryz.laidOut : laidOutB Tryz.prog = true := by kernel_rfl
open Go.Deep
theorem bulk_one {H : Type} (d : DataW H) : 1 ≤ Rows.uptoBulk d := by
  cases d with
  | lit l => cases l <;> simp [Rows.uptoBulk]
  | _ => simp [Rows.uptoBulk]
theorem bulk_mem {H : Type} {d : DataW H} : ∀ {l : List (DataW H)}, d ∈ l → Rows.uptoBulk d ≤ Rows.uptoBulkAll l
  | x :: r, h => by
    rw [Rows.uptoBulkAll]
    rcases List.mem_cons.1 h with rfl | h
    · omega
    · have := bulk_mem h; omega
theorem bulk_len {H : Type} : ∀ l : List (DataW H), l.length ≤ Rows.uptoBulkAll l
  | [] => by simp
  | x :: r => by
    have h1 := bulk_len r
    have h2 := bulk_one x
    rw [Rows.uptoBulkAll, List.length_cons]
    omega
theorem bulk_elems {H : Type} (el sp : List (DataW H)) : Rows.uptoBulkAll el ≤ Rows.uptoBulk (.slice el sp) := by rw [Rows.uptoBulk]; omega
theorem bulk_parts {H : Type} (ps : List (DataW H)) : Rows.uptoBulkAll ps ≤ Rows.uptoBulk (.agg ps) := by rw [Rows.uptoBulk]; omega
theorem Tryz.cellsOp : Tryz.prog.cellsOf 38 = 10 := by kernel_rfl
theorem Tryz.cellsConf : Tryz.prog.cellsOf 32 = 4 := by kernel_rfl
theorem Tryz.cellsSteps : Tryz.prog.cellsOf 35 = 1 := by kernel_rfl
theorem Tryz.cellsPairs : Tryz.prog.cellsOf 36 = 1 := by kernel_rfl
section
variable {H : Type} {enc : TypeId × Value → H} {w : World} {base : Nat} {spare : Nat → Bool} {held : Bool}
theorem open_conf {fuel : Nat} {cs : List Value} {x : DataW H × List MemPlace} (h : DataW.trod enc Tryz.prog w base spare held fuel 32 cs = some x) :
    ∃ a b c d : Int, cs = [.int .i64 a, .int .i64 b, .int .i64 c, .int .i64 d] := by
  obtain ⟨xs, k, _, _, hlen, hxl, hf⟩ := DataW.trod_struct Tryz.underlying32 h
  rw [Tryz.cellsConf] at hlen
  match xs, hxl, cs, hlen with
  | [y0, y1, y2, y3], _, [v0, v1, v2, v3], _ =>
    have g0 := hf 0 _ rfl
    have g1 := hf 1 _ rfl
    have g2 := hf 2 _ rfl
    have g3 := hf 3 _ rfl
    simp [Tryz.cellsInt] at g0 g1 g2 g3
    obtain ⟨a, e0, _, _⟩ := DataW.trod_int Tryz.underlying3 g0
    obtain ⟨b, e1, _, _⟩ := DataW.trod_int Tryz.underlying3 g1
    obtain ⟨c, e2, _, _⟩ := DataW.trod_int Tryz.underlying3 g2
    obtain ⟨d, e3, _, _⟩ := DataW.trod_int Tryz.underlying3 g3
    simp at e0 e1 e2 e3
    subst e0 e1 e2 e3
    exact ⟨a, b, c, d, rfl⟩
theorem open_op {fuel : Nat} {cs : List Value} {x : DataW H × List MemPlace} (h : DataW.trod enc Tryz.prog w base spare held fuel 38 cs = some x) (hx : Rows.uptoBulk x.1 ≤ 1048576) :
    ∃ o : OpM, cs = opCells o ∧ OpOK w o := by
  obtain ⟨ys, k, _, hxe, hlen, hxl, hf⟩ := DataW.trod_struct Tryz.underlying38 h
  rw [Tryz.cellsOp] at hlen
  match ys, hxl, cs, hlen with
  | [y0, y1, y2, y3, y4, y5, y6], _, [v0, v1, v2, v3, v4, v5, v6, v7, v8, v9], _ =>
    have g0 := hf 0 _ rfl
    have g1 := hf 1 _ rfl
    have g2 := hf 2 _ rfl
    have g3 := hf 3 _ rfl
    have g4 := hf 4 _ rfl
    have g5 := hf 5 _ rfl
    have g6 := hf 6 _ rfl
    simp [Tryz.cellsInt, Tryz.cellsSteps, Tryz.cellsPairs, Tryz.cellsConf] at g0 g1 g2 g3 g4 g5 g6
    obtain ⟨a0, e0, _, w0⟩ := DataW.trod_int Tryz.underlying3 g0
    obtain ⟨a1, e1, _, w1⟩ := DataW.trod_int Tryz.underlying3 g1
    obtain ⟨a2, e2, _, w2⟩ := DataW.trod_int Tryz.underlying3 g2
    obtain ⟨a3, e3, _, w3⟩ := DataW.trod_int Tryz.underlying3 g3
    simp at e0 e1 e2 e3
    subst e0 e1 e2 e3
    have hb : Rows.uptoBulk y4.1 ≤ 1048576 ∧ Rows.uptoBulk y5.1 ≤ 1048576 := by
      rw [hxe] at hx
      have hx : Rows.uptoBulk (.agg [y0.1, y1.1, y2.1, y3.1, y4.1, y5.1, y6.1]) ≤ 1048576 := hx
      have h4 := bulk_parts [y0.1, y1.1, y2.1, y3.1, y4.1, y5.1, y6.1]
      have h5 : Rows.uptoBulk y4.1 ≤ Rows.uptoBulkAll [y0.1, y1.1, y2.1, y3.1, y4.1, y5.1, y6.1] := bulk_mem (by simp)
      have h6 : Rows.uptoBulk y5.1 ≤ Rows.uptoBulkAll [y0.1, y1.1, y2.1, y3.1, y4.1, y5.1, y6.1] := bulk_mem (by simp)
      omega
    obtain ⟨l, hl, hl2⟩ := open_steps g4
    obtain ⟨ml, hm, hm2⟩ := open_pairs g5
    obtain ⟨c1, c2, c3, c4, hc⟩ := open_conf g6
    have hll : l.length ≤ 1048576 := by
      rcases hl2 with rfl | ⟨el, sp, he, hel⟩
      · simp
      · have h1 := bulk_len el
        have h2 := bulk_elems el sp
        rw [← he] at h2
        omega
    have hml : ml.length ≤ 1048576 := by
      rcases hm2 with rfl | ⟨el, sp, he, hel⟩
      · simp
      · have h1 := bulk_len el
        have h2 := bulk_elems el sp
        rw [← he] at h2
        omega
    have hm := hm (by omega)
    have hl' := hl
    have hm' := hm
    obtain ⟨sa, sc, rfl, _⟩ := hl
    obtain ⟨pa, pc, rfl, _⟩ := hm
    simp at hc
    obtain ⟨rfl, rfl, rfl, rfl⟩ := hc
    exact ⟨⟨a0, a1, a2, a3, sa, sc, l, pa, pc, ml, c1, c2, c3, c4⟩, rfl, i64B_wf w1, i64B_wf w3, hl', by show l.length * 32 ≤ _; omega, hm', by show ml.length * 16 ≤ _; omega⟩
theorem open_sops {fuel : Nat} {v : Value} {x : DataW H × List MemPlace} (h : DataW.trod enc Tryz.prog w base spare held fuel 22 [v] = some x) (hx : Rows.uptoBulk x.1 ≤ 1048576) :
    ∃ S : List OpM, SopAt w v S ∧ S.length ≤ 1048576 := by
  rcases open_slice Tryz.underlying22 h with ⟨hc, _⟩ | ⟨a, len, cap, m, n, D, Pl, hc, hb, hl, hm, hmm, hxe, hall⟩
  · simp at hc
    exact ⟨[], ⟨⟨none, 0, hc, Or.inl rfl⟩, fun s hs => by cases hs⟩, by simp⟩
  · simp at hc
    have hlm : len ≤ m := by rw [hmm]; split <;> omega
    rw [hxe] at hx
    have hx : Rows.uptoBulk (.slice ((List.range len).map D) ((List.range (m - len)).map fun j => D (len + j))) ≤ 1048576 := hx
    have hel := bulk_elems ((List.range len).map D) ((List.range (m - len)).map fun j => D (len + j))
    haveI : Inhabited OpM := ⟨op0⟩
    obtain ⟨S, hS⟩ := choose_lt (n := len) (p := fun i (o : OpM) => (∀ j, j < 10 → w.cell? ((a.add (i * 10)).add j) = (opCells o)[j]?) ∧ OpOK w o) (fun i hi => by
      obtain ⟨cs, h1, h2⟩ := hall i (by omega)
      rw [Tryz.cellsOp] at h1
      obtain ⟨_, _, hcell⟩ := World.cells?_some h1
      have hbi : Rows.uptoBulk (D i) ≤ Rows.uptoBulkAll ((List.range len).map D) := bulk_mem (List.mem_map.2 ⟨i, List.mem_range.2 hi, rfl⟩)
      obtain ⟨o, rfl, h3⟩ := open_op h2 (by show Rows.uptoBulk (D i) ≤ _; omega)
      exact ⟨o, hcell, h3⟩)
    have hlen : ((List.range len).map S).length = len := by simp
    have hll : len ≤ 1048576 := by
      have := bulk_len ((List.range len).map D)
      rw [List.length_map, List.length_range] at this
      omega
    refine ⟨(List.range len).map S, ⟨⟨some a, cap, by rw [hlen]; exact hc, ?_⟩, fun s hs => ?_⟩, by rw [hlen]; exact hll⟩
    · by_cases h0 : len = 0
      · left; subst h0; rfl
      · right
        obtain ⟨b, off, spot⟩ := a
        have hz : w.cell? (((⟨b, off, spot⟩ : Addr).add (0 * 10)).add 0) = some (.int .i64 (S 0).kind) := (hS 0 (by omega)).1 0 (by omega)
        simp [Addr.add] at hz
        have hspot : spot = none := by simpa using World.cell?_spot hz
        subst hspot
        refine ⟨b, off, rfl, World.block_lt_of_cell? w _ hz, fun i hi k hk => ?_⟩
        rw [hlen] at hi
        have e : ((List.range len).map S).getD i op0 = S i := by simp [List.getD, hi]
        rw [e]
        have q := (hS i hi).1 k hk
        simp only [WideShapes.add_plain] at q
        exact q
    · obtain ⟨i, hi, rfl⟩ := List.mem_map.1 hs
      exact (hS i (List.mem_range.1 hi)).2
end
open Go.ChangeShapes Go.WideShapes Go.ChangeAt
theorem all_lifted (os : Os) (started : os.Started) (H : Type) (enc : TypeId × Value → H) (F : Stop.Interp) :
    ReturnsInHanded {} Tryz.checked os 4 .any ((Rows.OpenSpec.upto Rows.allSpec).pre6 enc Tryz.prog Tryz.f4 Rows.allUptoRow.domain false) (((Rows.OpenSpec.upto Rows.allSpec).at F).post enc Tryz.prog Tryz.f4 false true false false) := by
  refine returnsInHanded_of_cond (C := Tryz.checked) (s := Rows.OpenSpec.upto Rows.allSpec) (k := Rows.uptoSmall) rfl Tryz.own started (by kernel_rfl) Tryz.func4
    (OpenSpec.witness (enc := enc) (C := Tryz.checked) (s := Rows.OpenSpec.upto Rows.allSpec) (k := Rows.uptoSmall) rfl false ⟨#[], #[.slice none 0 0], []⟩ 8 (by kernel_rfl) (by kernel_rfl) (by kernel_rfl)
      (x := ([.nil], [], [])) (by kernel_rfl) rfl (by kernel_rfl)) ?_
  intro W base args ds gs before hval0 hW _ hk _
  have hval : ∀ (j : Nat) t v, Tryz.f4.params[j]? = some t → args[j]? = some v → Value.okWide Tryz.prog W .any base t v := hval0
  have hW' := hW
  obtain ⟨p, q, hA0, hV, rfl, hfz, hnd⟩ := hW
  have hA : DataW.TrodAll enc Tryz.prog W 0 (fun _ => true) true Tryz.f4.params.toList args.toList ds p := hA0
  rw [Tryz.params4] at hA hval
  obtain ⟨v0, d0, rfl, rfl, h0⟩ := trodAll_one hA
  obtain ⟨rfl, rfl⟩ := trodVars_none hV
  have hbulk : Rows.uptoBulkAll [d0] ≤ 1048576 := of_decide_eq_true hk
  obtain ⟨a0, len0, cap0, rfl⟩ := okWide_slice Tryz.underlying22 (hval 0 22 v0 rfl rfl)
  have k0 := h0
  have lt0 : ∀ x ∈ p, x.block < W.heap.size := by obtain ⟨m, hm⟩ := k0; exact DataW.trod_lt m _ _ _ hm
  obtain ⟨S, hS, hl⟩ : ∃ S : List OpM, SopAt W (.slice a0 len0 cap0) S ∧ S.length ≤ 1048576 := by
    obtain ⟨fuel, hf⟩ := h0
    exact open_sops (v := .slice a0 len0 cap0) (by simpa [Value.cells] using hf) (by have := bulk_mem (d := d0) (l := [d0]) (by simp); show Rows.uptoBulk d0 ≤ _; omega)
  clear hA0 hval0
  refine (all_walk W _ S hS hl).mono fun e W' ⟨he, bel⟩ => ?_
  subst he
  exact ⟨_, rfl, _, _, _, [], _, [], hW', trodAll_mk1 (shut_bool Tryz.underlying4 _), trodAll_mk1 (Below.trod Tryz.laidOut (by kernel_rfl) (of_decide_eq_true (by kernel_rfl)) k0 bel lt0), rfl, bel.frame _, fun h => by cases h⟩
theorem all_holds : Rows.AllUptoSaid :=
  OpenClaim.holds_of_cond 4 Tryz.f4 rfl rfl rfl rfl rfl rfl rfl ⟨rfl, rfl, rfl, rfl, rfl⟩ rfl rfl rfl rfl rfl (by kernel_rfl) Tryz.func4 (by kernel_rfl)
    (of_decide_eq_true (by kernel_rfl)) (by unfold Func.isWrapper; rw [if_neg (of_decide_eq_false (by kernel_rfl))]; exact ⟨rfl, rfl⟩)
    (fun os started H enc _ F => all_lifted os started H enc F)
theorem singles_lifted (os : Os) (started : os.Started) (H : Type) (enc : TypeId × Value → H) (F : Stop.Interp) :
    ReturnsInHanded {} Tryz.checked os 3 .any ((Rows.OpenSpec.upto Rows.singlesSpec).pre6 enc Tryz.prog Tryz.f3 Rows.singlesUptoRow.domain false) (((Rows.OpenSpec.upto Rows.singlesSpec).at F).post enc Tryz.prog Tryz.f3 false true false false) := by
  refine returnsInHanded_of_cond (C := Tryz.checked) (s := Rows.OpenSpec.upto Rows.singlesSpec) (k := Rows.uptoSmall) rfl Tryz.own started (by kernel_rfl) Tryz.func3
    (OpenSpec.witness (enc := enc) (C := Tryz.checked) (s := Rows.OpenSpec.upto Rows.singlesSpec) (k := Rows.uptoSmall) rfl false ⟨#[], #[.slice none 0 0], []⟩ 8 (by kernel_rfl) (by kernel_rfl) (by kernel_rfl)
      (x := ([.nil], [], [])) (by kernel_rfl) rfl (by kernel_rfl)) ?_
  intro W base args ds gs before hval0 hW _ hk _
  have hval : ∀ (j : Nat) t v, Tryz.f3.params[j]? = some t → args[j]? = some v → Value.okWide Tryz.prog W .any base t v := hval0
  have hW' := hW
  obtain ⟨p, q, hA0, hV, rfl, hfz, hnd⟩ := hW
  have hA : DataW.TrodAll enc Tryz.prog W 0 (fun _ => true) true Tryz.f3.params.toList args.toList ds p := hA0
  rw [Tryz.params3] at hA hval
  obtain ⟨v0, d0, rfl, rfl, h0⟩ := trodAll_one hA
  obtain ⟨rfl, rfl⟩ := trodVars_none hV
  have hbulk : Rows.uptoBulkAll [d0] ≤ 1048576 := of_decide_eq_true hk
  obtain ⟨a0, len0, cap0, rfl⟩ := okWide_slice Tryz.underlying22 (hval 0 22 v0 rfl rfl)
  have k0 := h0
  have lt0 : ∀ x ∈ p, x.block < W.heap.size := by obtain ⟨m, hm⟩ := k0; exact DataW.trod_lt m _ _ _ hm
  obtain ⟨S, hS, hl⟩ : ∃ S : List OpM, SopAt W (.slice a0 len0 cap0) S ∧ S.length ≤ 1048576 := by
    obtain ⟨fuel, hf⟩ := h0
    exact open_sops (v := .slice a0 len0 cap0) (by simpa [Value.cells] using hf) (by have := bulk_mem (d := d0) (l := [d0]) (by simp); show Rows.uptoBulk d0 ≤ _; omega)
  clear hA0 hval0
  refine (singles_walk W _ S hS hl).mono fun e W' ⟨he, bel⟩ => ?_
  subst he
  exact ⟨_, rfl, _, _, _, [], _, [], hW', trodAll_mk1 (shut_bool Tryz.underlying4 _), trodAll_mk1 (Below.trod Tryz.laidOut (by kernel_rfl) (of_decide_eq_true (by kernel_rfl)) k0 bel lt0), rfl, bel.frame _, fun h => by cases h⟩
theorem singles_holds : Rows.SinglesUptoSaid :=
  OpenClaim.holds_of_cond 3 Tryz.f3 rfl rfl rfl rfl rfl rfl rfl ⟨rfl, rfl, rfl, rfl, rfl⟩ rfl rfl rfl rfl rfl (by kernel_rfl) Tryz.func3 (by kernel_rfl)
    (of_decide_eq_true (by kernel_rfl)) (by unfold Func.isWrapper; rw [if_neg (of_decide_eq_false (by kernel_rfl))]; exact ⟨rfl, rfl⟩)
    (fun os started H enc _ F => singles_lifted os started H enc F)
end Go.Proofs.YtlbmcdoldnajoaaGreat
