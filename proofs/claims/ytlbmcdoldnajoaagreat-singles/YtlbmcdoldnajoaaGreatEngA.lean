import Derived.Test.YtlbmcdoldnajoaaGreatOk
import Derived.Deep.MidRow
import Derived.Laws.CopyOwn
import Derived.Test.YtlbmcdoldnajoaaGreatDoesLaw
import Derived.Deep.QuietTactic
import Derived.BigQuiet
import Derived.Deep.RegionWith
import Derived.Deep.AppendLies
set_option maxRecDepth 100000
set_option maxHeartbeats 2000000
namespace Go.Proofs.YtlbmcdoldnajoaaGreat
open Go.RowKit
def pos (v : Int) : Int := if 0 ≤ v then v else 0
def mapCells (f : Int → Int) : List Value := (List.range 16).map (fun k : Nat => Value.bool (decide (0 ≤ f k))) ++ (List.range 16).map (fun k : Nat => Value.int .i64 (pos (f k)))
theorem length_mapCells (f : Int → Int) : (mapCells f).length = 32 := by simp [mapCells]
theorem mapCells_has (f : Int → Int) {k : Nat} (h : k < 16) : (mapCells f)[k]? = some (.bool (decide (0 ≤ f k))) := by
  rw [mapCells, List.getElem?_append_left (by simpa using h)]
  simp [h]
theorem mapCells_val (f : Int → Int) {k : Nat} (h : k < 16) : (mapCells f)[16 + k]? = some (.int .i64 (pos (f k))) := by
  rw [mapCells, List.getElem?_append_right (by simp)]
  simp [h]
def MapAt (w : World) (b o : Nat) (f : Int → Int) : Prop := w.rangeAt b o (mapCells f)
theorem MapAt.has {w : World} {b o : Nat} {f : Int → Int} (h : MapAt w b o f) {k : Nat} (hk : k < 16) : w.cell? ⟨b, o + k, none⟩ = some (.bool (decide (0 ≤ f k))) := h k _ (mapCells_has f hk)
theorem MapAt.val {w : World} {b o : Nat} {f : Int → Int} (h : MapAt w b o f) {k : Nat} (hk : k < 16) : w.cell? ⟨b, o + 16 + k, none⟩ = some (.int .i64 (pos (f k))) := by rw [Nat.add_assoc]; exact h (16 + k) _ (mapCells_val f hk)
theorem value_any (w : World) (b o : Nat) (f : Int → Int) (k : Int) (h : MapAt w b o f) (h0 : 0 ≤ k) (h1 : k ≤ 15) :
    Calls Tryz.prog 111 #[.pointer (some ⟨b, o, none⟩), .int .i64 k] w fun e w' => e = .returned (.int .i64 (pos (f k))) ∧ w' = w := by
  obtain ⟨n, rfl⟩ : ∃ n : Nat, k = n := ⟨k.toNat, by omega⟩
  have c := h.val (k := n) (by omega)
  clear h
  go_enter Tryz.func111, Tryz.ntmps111
  go_wp2
  go_ret
  exact ⟨rfl, rfl⟩
theorem put_any (w : World) (b o : Nat) (f : Int → Int) (k : Int) (v : Int) (h : MapAt w b o f) (hf : ∀ i, w.frozen? ⟨b, i, none⟩ = false) (h0 : 0 ≤ k) (h1 : k ≤ 15) :
    Calls Tryz.prog 74 #[.pointer (some ⟨b, o, none⟩), .int .i64 k, .int .i64 v] w fun e w' => e = .returned (.tuple #[]) ∧ w' = (w.setCell ⟨b, o + k.toNat, none⟩ (.bool true)).setCell ⟨b, o + 16 + k.toNat, none⟩ (.int .i64 v) := by
  obtain ⟨n, rfl⟩ : ∃ n : Nat, k = n := ⟨k.toNat, by omega⟩
  have c0 := h.has (k := n) (by omega)
  have c1 := h.val (k := n) (by omega)
  have f0 := hf (o + n)
  have f1 := hf (o + 16 + n)
  have ne : ¬ o + 16 + n = o + n := by omega
  have ne' : ¬ o + n = o + 16 + n := by omega
  clear h hf
  go_enter Tryz.func74, Tryz.ntmps74
  go_wp2
  go_end0
  exact ⟨rfl, by simp⟩
theorem del_any (w : World) (b o : Nat) (f : Int → Int) (k : Int) (h : MapAt w b o f) (hf : ∀ i, w.frozen? ⟨b, i, none⟩ = false) (h0 : 0 ≤ k) (h1 : k ≤ 15) :
    Calls Tryz.prog 97 #[.pointer (some ⟨b, o, none⟩), .int .i64 k] w fun e w' => e = .returned (.tuple #[]) ∧ w' = (w.setCell ⟨b, o + k.toNat, none⟩ (.bool false)).setCell ⟨b, o + 16 + k.toNat, none⟩ (.int .i64 0) := by
  obtain ⟨n, rfl⟩ : ∃ n : Nat, k = n := ⟨k.toNat, by omega⟩
  have c0 := h.has (k := n) (by omega)
  have c1 := h.val (k := n) (by omega)
  have f0 := hf (o + n)
  have f1 := hf (o + 16 + n)
  have ne : ¬ o + 16 + n = o + n := by omega
  have ne' : ¬ o + n = o + 16 + n := by omega
  clear h hf
  go_enter Tryz.func97, Tryz.ntmps97
  go_wp2
  go_end0
  exact ⟨rfl, by simp⟩
def sumR (f : Int → Int) (b c : Int) : Nat → Int
  | 0 => 0
  | t + 1 => sumR f b c t + if b ≤ t ∧ (t : Int) ≤ c then pos (f t) else 0
def cntR (f : Int → Int) (b c : Int) : Nat → Int
  | 0 => 0
  | t + 1 => cntR f b c t + if b ≤ t ∧ (t : Int) ≤ c ∧ 0 ≤ f t then 1 else 0
theorem sumR_bd {f : Int → Int} (hf : ∀ k, f k ≤ 9999) (b c : Int) : ∀ t, 0 ≤ sumR f b c t ∧ sumR f b c t ≤ 9999 * t
  | 0 => by simp [sumR]
  | t + 1 => by
    have ih := sumR_bd hf b c t
    have := hf t
    unfold sumR pos
    split <;> (try split) <;> constructor <;> omega
theorem cntR_bd (f : Int → Int) (b c : Int) : ∀ t, 0 ≤ cntR f b c t ∧ cntR f b c t ≤ t
  | 0 => by simp [cntR]
  | t + 1 => by
    have ih := cntR_bd f b c t
    unfold cntR
    split <;> constructor <;> omega
theorem sumR_K (f : Int → Int) {b c : Int} (hb : 0 ≤ b) (hc : b ≤ c) : ∀ t : Nat, sumR f b c t = sumK f b (min (t : Int) (c + 1) - b).toNat
  | 0 => by rw [show (min ((0 : Nat) : Int) (c + 1) - b).toNat = 0 by omega]; rfl
  | t + 1 => by
    rw [sumR, sumR_K f hb hc t]
    by_cases h : b ≤ t ∧ (t : Int) ≤ c
    · rw [if_pos h, show (min ((t + 1 : Nat) : Int) (c + 1) - b).toNat = (min (t : Int) (c + 1) - b).toNat + 1 by omega, sumK, show b + ((min (t : Int) (c + 1) - b).toNat : Int) = t by omega]
      rfl
    · rw [if_neg h, show (min ((t + 1 : Nat) : Int) (c + 1) - b).toNat = (min (t : Int) (c + 1) - b).toNat by omega]; omega
theorem cntR_K (f : Int → Int) {b c : Int} (hb : 0 ≤ b) (hc : b ≤ c) : ∀ t : Nat, cntR f b c t = cntK f b (min (t : Int) (c + 1) - b).toNat
  | 0 => by rw [show (min ((0 : Nat) : Int) (c + 1) - b).toNat = 0 by omega]; rfl
  | t + 1 => by
    rw [cntR, cntR_K f hb hc t]
    by_cases h : b ≤ t ∧ (t : Int) ≤ c
    · rw [show (min ((t + 1 : Nat) : Int) (c + 1) - b).toNat = (min (t : Int) (c + 1) - b).toNat + 1 by omega, cntK, show b + ((min (t : Int) (c + 1) - b).toNat : Int) = t by omega]
      by_cases h2 : 0 ≤ f t
      · rw [if_pos ⟨h.1, h.2, h2⟩, if_pos h2]
      · rw [if_neg (fun k => h2 k.2.2), if_neg h2]
    · rw [if_neg (fun k => h ⟨k.1, k.2.1⟩), show (min ((t + 1 : Nat) : Int) (c + 1) - b).toNat = (min (t : Int) (c + 1) - b).toNat by omega]; omega
theorem sumR_all (f : Int → Int) {b c : Int} (hb : 0 ≤ b) (hc : b ≤ c) (hc' : c ≤ 15) : sumR f b c 16 = sumK f b (c - b + 1).toNat := by
  rw [sumR_K f hb hc, show (min ((16 : Nat) : Int) (c + 1) - b).toNat = (c - b + 1).toNat by omega]
theorem cntR_all (f : Int → Int) {b c : Int} (hb : 0 ≤ b) (hc : b ≤ c) (hc' : c ≤ 15) : cntR f b c 16 = cntK f b (c - b + 1).toNat := by
  rw [cntR_K f hb hc, show (min ((16 : Nat) : Int) (c + 1) - b).toNat = (c - b + 1).toNat by omega]
theorem sum_any (w : World) (b o : Nat) (f : Int → Int) (p q : Int) (h : MapAt w b o f) (hf : ∀ k, f k ≤ 9999) (h0 : 0 ≤ p) (h1 : p ≤ q) (h2 : q ≤ 15) :
    Calls Tryz.prog 112 #[.pointer (some ⟨b, o, none⟩), .int .i64 p, .int .i64 q] w fun e w' => e = .returned (.int .i64 (sumK f p (q - p + 1).toNat)) ∧ w' = w := by
  rw [← sumR_all f h0 h1 h2]
  have HM : Hid (MapAt w b o f) := h
  have HF : Hid (∀ k, f k ≤ 9999) := hf
  clear h hf
  go_enter Tryz.func112, Tryz.ntmps112
  go_wp2
  go_loop [7, 8] (fun s i => ∃ j : Nat, j ≤ 16 ∧ i = .int .i64 j ∧ s = .int .i64 (sumR f p q j)) (fun _ i => 16 - (intOf i).toNat)
  case atStart => exact ⟨0, Nat.zero_le _, rfl, rfl⟩
  case round =>
    obtain ⟨j, hj, rfl, rfl⟩ := hrel
    by_cases hlt : j < 16
    · have c := HM.out.val (k := j) hlt
      have hb := sumR_bd HF.out p q j
      have hv : pos (f j) ≤ 9999 ∧ 0 ≤ pos (f j) := by have := HF.out j; unfold pos; split <;> omega
      have hst : sumR f p q (j + 1) = sumR f p q j + if p ≤ j ∧ (j : Int) ≤ q then pos (f j) else 0 := rfl
      have HSt : Hid (sumR f p q (j + 1) = sumR f p q j + if p ≤ j ∧ (j : Int) ≤ q then pos (f j) else 0) := hst
      clear hst
      generalize sumR f p q j = s at *
      generalize pos (f j) = v at *
      have hj' : (j : Int) < 16 := by omega
      have hw : IntKind.i64.wrap (s + v) = s + v := by rw [IntKind.wrap_i64]; omega
      by_cases k1 : p ≤ (j : Int)
      · by_cases k2 : (j : Int) ≤ q
        · go_wp2
          go_round
          case rel => exact ⟨j + 1, by omega, by go_num, by rw [HSt.out, if_pos ⟨k1, k2⟩]⟩
          case measure => simp [intOf]; omega
        · go_wp2
          go_round
          case rel => exact ⟨j + 1, by omega, by go_num, by rw [HSt.out, if_neg (fun h => k2 h.2), Int.add_zero]⟩
          case measure => simp [intOf]; omega
      · go_wp2
        go_round
        case rel => exact ⟨j + 1, by omega, by go_num, by rw [HSt.out, if_neg (fun h => k1 h.1), Int.add_zero]⟩
        case measure => simp [intOf]; omega
    · have hj' : ¬ ((j : Int) < 16) := by omega
      obtain rfl : j = 16 := by omega
      go_wp2
      go_ret
      exact ⟨rfl, rfl⟩
theorem count_any (w : World) (b o : Nat) (f : Int → Int) (p q : Int) (h : MapAt w b o f) (h0 : 0 ≤ p) (h1 : p ≤ q) (h2 : q ≤ 15) :
    Calls Tryz.prog 113 #[.pointer (some ⟨b, o, none⟩), .int .i64 p, .int .i64 q] w fun e w' => e = .returned (.int .i64 (cntK f p (q - p + 1).toNat)) ∧ w' = w := by
  rw [← cntR_all f h0 h1 h2]
  have HM : Hid (MapAt w b o f) := h
  clear h
  go_enter Tryz.func113, Tryz.ntmps113
  go_wp2
  go_loop [7, 8] (fun s i => ∃ j : Nat, j ≤ 16 ∧ i = .int .i64 j ∧ s = .int .i64 (cntR f p q j)) (fun _ i => 16 - (intOf i).toNat)
  case atStart => exact ⟨0, Nat.zero_le _, rfl, rfl⟩
  case round =>
    obtain ⟨j, hj, rfl, rfl⟩ := hrel
    by_cases hlt : j < 16
    · have c := HM.out.has (k := j) hlt
      have hb := cntR_bd f p q j
      have hst : cntR f p q (j + 1) = cntR f p q j + if p ≤ j ∧ (j : Int) ≤ q ∧ 0 ≤ f j then 1 else 0 := rfl
      have HSt : Hid (cntR f p q (j + 1) = cntR f p q j + if p ≤ j ∧ (j : Int) ≤ q ∧ 0 ≤ f j then 1 else 0) := hst
      clear hst
      generalize cntR f p q j = s at *
      have hj' : (j : Int) < 16 := by omega
      have hw : IntKind.i64.wrap (s + 1) = s + 1 := by rw [IntKind.wrap_i64]; omega
      by_cases k1 : p ≤ (j : Int)
      · by_cases k2 : (j : Int) ≤ q
        · by_cases k3 : 0 ≤ f j
          · rw [decide_eq_true k3] at c
            go_wp2
            go_round
            case rel => exact ⟨j + 1, by omega, by go_num, by rw [HSt.out, if_pos ⟨k1, k2, k3⟩]⟩
            case measure => simp [intOf]; omega
          · rw [decide_eq_false k3] at c
            go_wp2
            go_round
            case rel => exact ⟨j + 1, by omega, by go_num, by rw [HSt.out, if_neg (fun h => k3 h.2.2), Int.add_zero]⟩
            case measure => simp [intOf]; omega
        · go_wp2
          go_round
          case rel => exact ⟨j + 1, by omega, by go_num, by rw [HSt.out, if_neg (fun h => k2 h.2.1), Int.add_zero]⟩
          case measure => simp [intOf]; omega
      · go_wp2
        go_round
        case rel => exact ⟨j + 1, by omega, by go_num, by rw [HSt.out, if_neg (fun h => k1 h.1), Int.add_zero]⟩
        case measure => simp [intOf]; omega
    · have hj' : ¬ ((j : Int) < 16) := by omega
      obtain rfl : j = 16 := by omega
      go_wp2
      go_ret
      exact ⟨rfl, rfl⟩
end Go.Proofs.YtlbmcdoldnajoaaGreat
namespace Go.Proofs.YtlbmcdoldnajoaaGreat
open Go.RowKit
theorem Tryz.sizeMap : (Tryz.prog.info? 71).map (·.size) = some 32 := by kernel_rfl
theorem Tryz.sizeRun : (Tryz.prog.info? 105).map (·.size) = some 72 := by kernel_rfl
structure WOp (op : Oper) (a : Act) (w : World) (K : Act → World → Prop) (Q : Exit → Act → World → Prop) : Prop where
  out : op.wp Tryz.prog a w K Q
theorem wop_eq (op : Oper) (a : Act) (w : World) (K : Act → World → Prop) (Q : Exit → Act → World → Prop) : Oper.wp Tryz.prog op a w K Q = WOp op a w K Q := propext ⟨fun h => ⟨h⟩, fun h => h.out⟩
section
variable (d : Option Tmp) (x y : Operand) (ty : TypeId) (ps : String) (af : Array Edge) (gd : Option (Nat × Bool)) (a : Act) (w : World) (K : Act → World → Prop) (Q : Exit → Act → World → Prop)
theorem wStM : Oper.wp Tryz.prog ⟨d, .store 71 x y, ty, ps, af, gd⟩ a w K Q = WOp ⟨d, .store 71 x y, ty, ps, af, gd⟩ a w K Q := wop_eq _ _ _ _ _
theorem wStR : Oper.wp Tryz.prog ⟨d, .store 105 x y, ty, ps, af, gd⟩ a w K Q = WOp ⟨d, .store 105 x y, ty, ps, af, gd⟩ a w K Q := wop_eq _ _ _ _ _
theorem wLdM : Oper.wp Tryz.prog ⟨d, .load 71 x, ty, ps, af, gd⟩ a w K Q = WOp ⟨d, .load 71 x, ty, ps, af, gd⟩ a w K Q := wop_eq _ _ _ _ _
theorem wLdR : Oper.wp Tryz.prog ⟨d, .load 105 x, ty, ps, af, gd⟩ a w K Q = WOp ⟨d, .load 105 x, ty, ps, af, gd⟩ a w K Q := wop_eq _ _ _ _ _
end
theorem wp_stN {op : Oper} {a : Act} {w : World} {K : Act → World → Prop} {Q : Exit → Act → World → Prop} {T : TypeId} {x y : Operand} (b : Nat) {c c' : Array Value} (ho : op.op = .store T x y)
    (hx : a.eval x = .pointer (some ⟨b, 0, none⟩)) (hy : a.eval y = .agg c') (hb : w.heap[b]? = some (.cells c T (0, 0))) (hi : (Tryz.prog.info? T).map (·.size) = some c'.size) (hs : c.size = c'.size) (h1 : c'.all (·.oneCell') = true)
    (h : ∀ w', w'.heap[b]? = some (.cells c' T (0, 0)) → Fr (fun k => k = b) w w' → K (a.put op.dst undef) w') : WOp op a w K Q := by
  have hr := run_storeVar_row (P := Tryz.prog) w b T T c c' hb hi hs h1
  constructor
  unfold Oper.wp execOp
  simp only [ho, hx, hy, Instr.storeAt, Instr.sureAddr, Sem.run_bind, Sem.run_pure, Result.andThen_ok, hr]
  exact h _ (setRow_heap w b c c' T _ hb) ⟨rfl, rfl, rfl, by simp [World.setRow], fun k _ hk => setRow_other w b k c' hk⟩
theorem wp_ldN {op : Oper} {a : Act} {w : World} {K : Act → World → Prop} {Q : Exit → Act → World → Prop} {T : TypeId} {x : Operand} (b o : Nat) {cs : List Value} {d : TypeDesc} (ho : op.op = .load T x)
    (hx : a.eval x = .pointer (some ⟨b, o, none⟩)) (hc : w.rangeAt b o cs) (hu : Tryz.prog.underlying T = some d) (hd : d.isRow = true) (hi : (Tryz.prog.info? T).map (·.size) = some cs.length)
    (h : K (a.put op.dst (.agg cs.toArray)) w) : WOp op a w K Q := ⟨wp_load_mid T x ho b o hx cs d hc hu hd hi h⟩
theorem mapCells_one (f : Int → Int) : (mapCells f).toArray.all (·.oneCell') = true := by
  refine all_oneCell_toArray (fun v hv => ?_)
  rcases List.mem_append.1 hv with h | h
  · obtain ⟨k, _, rfl⟩ := List.mem_map.1 h; rfl
  · obtain ⟨k, _, rfl⟩ := List.mem_map.1 h; rfl
theorem results_cell1 {fn : Func} {a : Tmp} {T : TypeId} (h : fn.results = #[.cell a T]) {tmps : Array Value} {P : Program} {w : World} {b : Addr} {v : Value} (ha : tmps.getD a undef = .pointer (some b)) (hl : (loadVar T b).run P w = .ok v w) :
    (results fn tmps).run P w = .ok v w := by
  rw [Array.getD_eq_getD_getElem?] at ha
  simp [results, h, ha, asAddr, hl]
theorem results_cell2 {fn : Func} {a t : Tmp} {T : TypeId} (h : fn.results = #[.cell a T, .tmp t]) {tmps : Array Value} {P : Program} {w : World} {b : Addr} {v u : Value} (ha : tmps.getD a undef = .pointer (some b)) (hu : tmps.getD t undef = u) (hl : (loadVar T b).run P w = .ok v w) :
    (results fn tmps).run P w = .ok (.tuple #[v, u]) w := by
  rw [Array.getD_eq_getD_getElem?] at ha hu
  simp [results, h, ha, asAddr, hl, hu, Result.andThen]
theorem new1E (w : World) (a o : Obj) : ((w.alloc a).alloc o).heap[w.heap.size + 1]? = some o := by have := heap_alloc_new (w.alloc a) o; rwa [World.size_alloc] at this
theorem new0E (w : World) (a o : Obj) : ((w.alloc a).alloc o).heap[w.heap.size]? = some a := (Below.heap_alloc _ _ _ (by simp)).trans (heap_alloc_new w a)
theorem blk_rangeAt {w : World} {b o : Nat} {pre cs post : List Value} {t : TypeId} {fr : Nat × Nat} (h : w.heap[b]? = some (.cells (pre ++ cs ++ post).toArray t fr)) (ho : pre.length = o) : w.rangeAt b o cs := fun j v hj => by
  have hlt : j < cs.length := (List.getElem?_eq_some_iff.1 hj).1
  rw [blk_cell h, List.getElem?_toArray, List.getElem?_append_left (by simp; omega), List.getElem?_append_right (by omega), ← ho, Nat.add_sub_cancel_left]
  exact hj
def MapBlk (w : World) (b : Nat) (f : Int → Int) : Prop := w.heap[b]? = some (.cells (mapCells f).toArray 71 (0, 0))
theorem MapBlk.at {w : World} {b : Nat} {f : Int → Int} (h : MapBlk w b f) : MapAt w b 0 f := blk_rangeAt (pre := []) (post := []) (by simpa [MapBlk] using h) rfl
theorem MapBlk.load {w : World} {b : Nat} {f : Int → Int} (h : MapBlk w b f) : (loadVar 71 ⟨b, 0, none⟩).run Tryz.prog w = .ok (.agg (mapCells f).toArray) w :=
  run_loadVar_mid w b 0 _ _ _ h.at Tryz.underlying71 rfl (by rw [Tryz.sizeMap, length_mapCells])
theorem mapZ : (#[.bool false, .bool false, .bool false, .bool false, .bool false, .bool false, .bool false, .bool false, .bool false, .bool false, .bool false, .bool false, .bool false, .bool false, .bool false, .bool false, .int .i64 0, .int .i64 0, .int .i64 0, .int .i64 0, .int .i64 0, .int .i64 0, .int .i64 0, .int .i64 0, .int .i64 0, .int .i64 0, .int .i64 0, .int .i64 0, .int .i64 0, .int .i64 0, .int .i64 0, .int .i64 0] : Array Value) = (mapCells (fun _ => -1)).toArray := by rfl
end Go.Proofs.YtlbmcdoldnajoaaGreat
namespace Go.Proofs.YtlbmcdoldnajoaaGreat
open Go.RowKit
attribute [local go_sem ↓] wStM wStR wLdM wLdR
theorem map_range_set (g : Nat → Value) (n k : Nat) (a : Value) : ((List.range n).map g).set k a = (List.range n).map (fun j => if j = k then a else g j) := by
  apply List.ext_getElem
  · simp
  · intro i h1 h2
    simp [List.getElem_set]
    by_cases h : k = i
    · subst h; simp
    · rw [if_neg h, if_neg (fun e => h e.symm)]
theorem mapCells_set (f g : Int → Int) (k : Nat) (a b : Value) (hk : k < 16) (ha : ∀ j : Nat, j < 16 → (if j = k then a else Value.bool (decide (0 ≤ f j))) = Value.bool (decide (0 ≤ g j))) (hb : ∀ j : Nat, j < 16 → (if j = k then b else Value.int .i64 (pos (f j))) = Value.int .i64 (pos (g j))) :
    ((mapCells f).set k a).set (16 + k) b = mapCells g := by
  unfold mapCells
  rw [List.set_append_left _ _ (by simpa using hk), List.set_append_right _ _ (by simp), map_range_set, List.length_map, List.length_range, Nat.add_sub_cancel_left, map_range_set]
  congr 1
  · exact List.map_congr_left (fun j hj => ha j (List.mem_range.1 hj))
  · exact List.map_congr_left (fun j hj => hb j (List.mem_range.1 hj))
theorem mapCells_put (f : Int → Int) (k : Nat) (v : Int) (hk : k < 16) (hv : 0 ≤ v) : ((mapCells f).set k (.bool true)).set (16 + k) (.int .i64 v) = mapCells (fun j => if (k : Int) = j then v else f j) := by
  refine mapCells_set f _ k _ _ hk (fun j _ => ?_) (fun j _ => ?_)
  · by_cases h : j = k
    · subst h; simp [hv]
    · rw [if_neg h, if_neg (by omega)]
  · by_cases h : j = k
    · subst h; simp [pos, hv]
    · rw [if_neg h, if_neg (by omega)]
theorem mapCells_del (f : Int → Int) (k : Nat) (hk : k < 16) : ((mapCells f).set k (.bool false)).set (16 + k) (.int .i64 0) = mapCells (fun j => if (k : Int) = j then -1 else f j) := by
  refine mapCells_set f _ k _ _ hk (fun j _ => ?_) (fun j _ => ?_)
  · by_cases h : j = k
    · subst h; simp
    · rw [if_neg h, if_neg (by omega)]
  · by_cases h : j = k
    · subst h; simp [pos]
    · rw [if_neg h, if_neg (by omega)]
theorem MapBlk.put {w : World} {b : Nat} {f : Int → Int} (h : MapBlk w b f) {k v : Int} (h0 : 0 ≤ k) (h1 : k ≤ 15) (hv : 0 ≤ v) : MapBlk ((w.setCell ⟨b, 0 + k.toNat, none⟩ (.bool true)).setCell ⟨b, 0 + 16 + k.toNat, none⟩ (.int .i64 v)) b (fun j => if k = j then v else f j) := by
  obtain ⟨n, rfl⟩ : ∃ n : Nat, k = n := ⟨k.toNat, by omega⟩
  unfold MapBlk
  rw [blk_set (blk_set h _ _), List.setIfInBounds_toArray, List.setIfInBounds_toArray, Int.toNat_natCast, Nat.zero_add, Nat.zero_add, mapCells_put _ _ _ (by omega) hv]
theorem vIn_snoc : ∀ (m : List (Int × Int)) (p : Int × Int) (k : Int), (∀ q ∈ m, q.1 ≠ p.1) → vIn (m ++ [p]) k = if p.1 = k then p.2 else vIn m k
  | [], p, k, _ => rfl
  | q :: r, p, k, h => by
    rw [List.cons_append, vIn, vIn, vIn_snoc r p k (fun t ht => h t (by simp [ht]))]
    by_cases hk : q.1 = k
    · rw [if_pos hk, if_pos hk, if_neg (fun e => h q (by simp) (hk.trans e.symm))]
    · rw [if_neg hk, if_neg hk]
theorem vIn_take {l : List (Int × Int)} {j : Nat} (hj : j < l.length) (h : ∀ t, t < j → (l.getD t pz).1 < (l.getD j pz).1) : vIn (l.take (j + 1)) = fun k => if (l.getD j pz).1 = k then (l.getD j pz).2 else vIn (l.take j) k := by
  funext k
  have e : l.getD j pz = l[j] := by simp [List.getD, hj]
  rw [← List.take_append_getElem hj, vIn_snoc, e]
  intro q hq
  obtain ⟨t, ht, rfl⟩ := List.getElem_of_mem hq
  simp at ht
  have := h t (by omega)
  rw [e] at this
  simp [List.getD, show t < l.length by omega] at this
  simp
  omega
structure FromRel (l : List (Int × Int)) (w : World) (j : Nat) (least : Int) (wr : World) : Prop where
  good : ∀ t, t < j → goodP l t = true
  lo : 0 ≤ least
  hi : least ≤ 16
  up : ∀ t, t < j → (l.getD t pz).1 < least
  eq : least = if j = 0 then 0 else (l.getD (j - 1) pz).1 + 1
  res : MapBlk wr w.heap.size (fun _ => -1)
  blk : MapBlk wr (w.heap.size + 1) (vIn (l.take j))
  bel : Below w.heap.size w wr
def Fromed (l : List (Int × Int)) (w : World) (e : Ending) (w' : World) : Prop :=
  e = .returned (.tuple #[.agg (mapCells (if mapB l = true then vIn l else fun _ => -1)).toArray, .bool (mapB l)]) ∧ Below w.heap.size w w'
theorem from_bad {l : List (Int × Int)} {j : Nat} {least : Int} {w wr : World} (h : FromRel l w j least wr) (hj : j < l.length) (hb : (l.getD j pz).1 < least ∨ 16 ≤ (l.getD j pz).1 ∨ (l.getD j pz).2 < 0 ∨ 9999 < (l.getD j pz).2) : mapB l = false := by
  refine mapB_bad hj ?_
  cases hg : goodP l j
  · rfl
  · simp only [goodP, keyB, Bool.and_eq_true, Bool.or_eq_true, decide_eq_true_eq] at hg
    have := h.eq
    have h0 := h.lo
    by_cases h1 : j = 0
    · rw [if_pos h1] at this; omega
    · rw [if_neg h1] at this; omega
theorem MapBlk.alloc {w : World} {b : Nat} {f : Int → Int} (h : MapBlk w b f) (o : Obj) : MapBlk (w.alloc o) b f := (Below.heap_alloc _ _ _ (blk_lt h)).trans h
theorem MapBlk.free {w : World} {b : Nat} {f : Int → Int} (h : MapBlk w b f) (i : Nat) : w.frozen? ⟨b, i, none⟩ = false := blk_free h
theorem MapBlk.other {w : World} {b b' i : Nat} {f : Int → Int} {v : Value} (h : MapBlk w b f) (hb : b ≠ b') : MapBlk (w.setCell ⟨b', i, none⟩ v) b f := (blk_other hb i v).trans h
theorem from_next {l : List (Int × Int)} {j : Nat} {least : Int} {w wr w' : World} (h : FromRel l w j least wr) (hj : j < l.length) (h1 : ¬ (l.getD j pz).1 < least) (h2 : (l.getD j pz).1 < 16) (h3 : 0 ≤ (l.getD j pz).2) (h4 : (l.getD j pz).2 ≤ 9999)
    (hres : MapBlk w' w.heap.size (fun _ => -1)) (hblk : MapBlk w' (w.heap.size + 1) (fun k => if (l.getD j pz).1 = k then (l.getD j pz).2 else vIn (l.take j) k)) (hb : Below w.heap.size w w') : FromRel l w (j + 1) ((l.getD j pz).1 + 1) w' := by
  have h0 := h.lo
  refine ⟨fun t ht => ?_, by omega, by omega, fun t ht => ?_, by simp, hres, ?_, hb⟩
  · by_cases e : t = j
    · subst e
      have := h.eq
      simp only [goodP, keyB, Bool.and_eq_true, Bool.or_eq_true, decide_eq_true_eq]
      refine ⟨⟨by omega, h3, h4⟩, ?_⟩
      by_cases e0 : t = 0
      · exact Or.inl e0
      · rw [if_neg e0] at this; exact Or.inr (by omega)
    · exact h.good t (by omega)
  · by_cases e : t = j
    · subst e; omega
    · have := h.up t (by omega); omega
  · rw [vIn_take hj (fun t ht => by have := h.up t ht; omega)]
    exact hblk
theorem from_round {l : List (Int × Int)} {j : Nat} {least p1 p2 : Int} {w wr W2 : World} (h : FromRel l w j least wr) (hj : j < l.length) (hp : (p1, p2) = l.getD j pz) (q : ¬ p1 < least) (q1 : ¬ 16 ≤ p1) (q2 : ¬ p2 < 0) (q3 : ¬ 9999 < p2)
    (hW : W2 = ((wr.alloc (.cells #[.int .i64 p1, .int .i64 p2] 58)).setCell ⟨w.heap.size + 1, 0 + p1.toNat, none⟩ (.bool true)).setCell ⟨w.heap.size + 1, 0 + 16 + p1.toNat, none⟩ (.int .i64 p2)) :
    FromRel l w (j + 1) (p1 + 1) W2 ∧ W2.cell? ⟨wr.heap.size, 0, none⟩ = some (.int .i64 p1) := by
  subst hW
  have h1 : (l.getD j pz).1 = p1 := by rw [← hp]
  have h2 : (l.getD j pz).2 = p2 := by rw [← hp]
  have hlt1 := blk_lt h.blk
  have h0 := h.lo
  have hput := h.blk.alloc (.cells #[.int .i64 p1, .int .i64 p2] 58)
  refine ⟨?_, ?_⟩
  · have := from_next h hj (w' := ((wr.alloc (.cells #[.int .i64 p1, .int .i64 p2] 58)).setCell ⟨w.heap.size + 1, 0 + p1.toNat, none⟩ (.bool true)).setCell ⟨w.heap.size + 1, 0 + 16 + p1.toNat, none⟩ (.int .i64 p2)) (by omega) (by omega) (by omega) (by omega) (((h.res.alloc _).other (by omega)).other (by omega)) (by rw [h1, h2]; exact hput.put (by omega) (by omega) (by omega)) (((h.bel.alloc h.bel.size _).setCell (p := ⟨w.heap.size + 1, _, none⟩) (Nat.le_succ _) _).setCell (p := ⟨w.heap.size + 1, _, none⟩) (Nat.le_succ _) _)
    rwa [h1] at this
  · have hb : (((wr.alloc (.cells #[.int .i64 p1, .int .i64 p2] 58)).setCell ⟨w.heap.size + 1, 0 + p1.toNat, none⟩ (.bool true)).setCell ⟨w.heap.size + 1, 0 + 16 + p1.toNat, none⟩ (.int .i64 p2)).heap[wr.heap.size]? = some (.cells #[.int .i64 p1, .int .i64 p2] 58 (0, 0)) := by
      rw [blk_other (by omega), blk_other (by omega)]; exact heap_alloc_new wr _
    rw [blk_cell hb]; rfl
theorem from_at (g off cap n : Nat) (l : List (Int × Int)) (w : World) (hn : n = l.length) (hm : n ≤ 140737488351232) (hg : g < w.heap.size) (hs : PairsAt w g off l) :
    Calls Tryz.prog 46 #[.slice (some ⟨g, off, none⟩) n cap] w fun e w' => Fromed l w e w' := by
  have HN : Hid (n = l.length) := hn
  have HP : Hid (PairsAt w g off l) := hs
  clear hn hs
  go_enter Tryz.func46, Tryz.ntmps46
  go_wp2
  refine wp_stN (T := 71) (w.heap.size + 1) (by rfl) (by rfl) (by rfl) (by exact new1E _ _ _) (by exact Tryz.sizeMap) (by rfl) (by exact mapZ ▸ mapCells_one _) ?_
  rintro W hW hF
  rw [mapZ] at hW
  have HW : Hid (MapBlk W (w.heap.size + 1) (fun _ => -1) ∧ MapBlk W w.heap.size (fun _ => -1) ∧ Below w.heap.size w W) := ⟨hW, (hF.block _ (by simp; omega) (by omega)).trans ((new0E _ _ _).trans (by rw [mapZ])), (((Below.refl _ w).alloc (Nat.le_refl _) _).alloc (by simp) _).trans (hF.below (by omega) (by simp; omega))⟩
  clear hW hF
  go_wp2
  go_loopw [5, 11] (fun lv i wr => ∃ (j : Nat) (least : Int), j ≤ n ∧ i = .int .i64 j ∧ lv = .int .i64 least ∧ FromRel l w j least wr) (fun _ i _ => n - (intOf i).toNat)
  case atStart => exact ⟨0, 0, Nat.zero_le _, rfl, rfl, ⟨fun t ht => absurd ht (Nat.not_lt_zero _), Int.le_refl _, by omega, fun t ht => absurd ht (Nat.not_lt_zero _), rfl, HW.out.2.1, HW.out.1, HW.out.2.2⟩⟩
  case round =>
    obtain ⟨j, least, hj, rfl, rfl, hrel⟩ := hrel
    have HR : Hid (FromRel l w j least _) := hrel
    have h0 := hrel.lo
    have h16 := hrel.hi
    clear hrel HW
    by_cases hlt : j < n
    · have hlt' : j < l.length := by rw [← HN.out]; exact hlt
      obtain ⟨c0, c1⟩ := (HP.out.below HR.out.bel hg) j hlt'
      obtain ⟨p, hp⟩ : ∃ p, p = l.getD j pz := ⟨_, rfl⟩
      rw [← hp] at c0 c1
      have HPq : Hid (p = l.getD j pz) := hp
      clear hp
      obtain ⟨p1, p2⟩ := p
      simp only at c0 c1
      have m1 : (j : Int) < (n : Int) := by omega
      rcases (show p1 < least ∨ (¬ p1 < least ∧ 16 ≤ p1) ∨ (¬ p1 < least ∧ ¬ 16 ≤ p1 ∧ p2 < 0) ∨ (¬ p1 < least ∧ ¬ 16 ≤ p1 ∧ ¬ p2 < 0 ∧ 9999 < p2) ∨ (¬ p1 < least ∧ ¬ 16 ≤ p1 ∧ ¬ p2 < 0 ∧ ¬ 9999 < p2) by omega) with q | ⟨q, q1⟩ | ⟨q, q1, q2⟩ | ⟨q, q1, q2, q3⟩ | ⟨q, q1, q2, q3⟩
      iterate 4
        · have hbad : mapB l = false := from_bad HR.out hlt' (by rw [← HPq.out]; simp only; omega)
          go_wp2
          refine wp_stN (T := 71) w.heap.size (by rfl) (by rfl) (by rfl) (by exact HR.out.res.alloc _) (by exact Tryz.sizeMap) (by simp [length_mapCells]) (by exact mapZ ▸ mapCells_one _) ?_
          rintro W2 hW2 hF2
          have HW2 : Hid (MapBlk W2 w.heap.size (fun _ => -1) ∧ Below w.heap.size w W2) := ⟨by rw [mapZ] at hW2; exact hW2, (HR.out.bel.alloc HR.out.bel.size _).trans (hF2.below (by omega) (by simp; have := HR.out.bel.size; omega))⟩
          clear hW2 hF2
          go_wp2
          refine bodyPost_ret (results_cell2 (by rfl) (by rfl) (by rfl) HW2.out.1.load) rfl ⟨?_, HW2.out.2⟩
          rw [hbad]; rfl
      · have HPut : Hid (MapBlk (wr.alloc (.cells #[.int .i64 p1, .int .i64 p2] 58)) (w.heap.size + 1) (vIn (l.take j))) := HR.out.blk.alloc (.cells #[.int .i64 p1, .int .i64 p2] 58)
        go_wp2_with (go_at_call 74; refine (put_any _ (w.heap.size + 1) 0 _ p1 p2 HPut.out.at HPut.out.free (by omega) (by omega)).mono ?_; rintro e W2 ⟨rfl, hW2⟩; have HX : Hid (FromRel l w (j + 1) (p1 + 1) W2 ∧ W2.cell? ⟨wr.heap.size, 0, none⟩ = some (.int .i64 p1)) := from_round HR.out hlt' HPq.out (by omega) (by omega) (by omega) (by omega) hW2; have c2 := HX.out.2; clear hW2)
        go_roundw
        case rel => exact ⟨j + 1, p1 + 1, by omega, by go_num, by go_num, HX.out.1⟩
        case measure => simp [intOf]; omega
    · obtain rfl : j = n := by omega
      have e : l.take j = l := by rw [HN.out]; exact List.take_length
      have hgood : mapB l = true := mapB_good (fun i hi => HR.out.good i (by rw [HN.out]; exact hi))
      have HL : Hid (MapBlk wr (w.heap.size + 1) (vIn l)) := by have := HR.out.blk; rw [e] at this; exact this
      go_wp2
      refine wp_ldN (T := 71) (w.heap.size + 1) 0 (by rfl) (by rfl) (by exact HL.out.at) (by exact Tryz.underlying71) (by rfl) (by rw [Tryz.sizeMap, length_mapCells]) ?_
      go_wp2
      refine wp_stN (T := 71) w.heap.size (by rfl) (by rfl) (by rfl) (by exact HR.out.res) (by rw [Tryz.sizeMap]; simp [length_mapCells]) (by simp [length_mapCells]) (by exact mapCells_one _) ?_
      rintro W2 hW2 hF2
      have HW2 : Hid (MapBlk W2 w.heap.size (vIn l) ∧ Below w.heap.size w W2) := ⟨hW2, HR.out.bel.trans (hF2.below (by omega) HR.out.bel.size)⟩
      clear hW2 hF2
      go_wp2
      refine bodyPost_ret (results_cell2 (by rfl) (by rfl) (by rfl) HW2.out.1.load) rfl ⟨?_, HW2.out.2⟩
      rw [hgood]; rfl
theorem from_none (ao : Option Addr) (cap : Nat) (w : World) :
    Calls Tryz.prog 46 #[.slice ao 0 cap] w fun e w' => Fromed [] w e w' := by
  go_enter Tryz.func46, Tryz.ntmps46
  go_wp2
  refine wp_stN (T := 71) (w.heap.size + 1) (by rfl) (by rfl) (by rfl) (by exact new1E _ _ _) (by exact Tryz.sizeMap) (by rfl) (by exact mapZ ▸ mapCells_one _) ?_
  rintro W hW hF
  rw [mapZ] at hW
  have HW : Hid (MapBlk W (w.heap.size + 1) (fun _ => -1) ∧ MapBlk W w.heap.size (fun _ => -1) ∧ Below w.heap.size w W) := ⟨hW, (hF.block _ (by simp; omega) (by omega)).trans ((new0E _ _ _).trans (by rw [mapZ])), (((Below.refl _ w).alloc (Nat.le_refl _) _).alloc (by simp) _).trans (hF.below (by omega) (by simp; omega))⟩
  clear hW hF
  go_wp2
  go_loop [5, 11] (fun lv i => i = .int .i64 0 ∧ lv = .int .i64 0) (fun _ _ => 0)
  case atStart => exact ⟨rfl, rfl⟩
  case round =>
    obtain ⟨rfl, rfl⟩ := hrel
    go_wp2
    refine wp_ldN (T := 71) (w.heap.size + 1) 0 (by rfl) (by rfl) (by exact HW.out.1.at) (by exact Tryz.underlying71) (by rfl) (by rw [Tryz.sizeMap, length_mapCells]) ?_
    go_wp2
    refine wp_stN (T := 71) w.heap.size (by rfl) (by rfl) (by rfl) (by exact HW.out.2.1) (by rw [Tryz.sizeMap]; simp [length_mapCells]) (by simp [length_mapCells]) (by exact mapCells_one _) ?_
    rintro W2 hW2 hF2
    have HW2 : Hid (MapBlk W2 w.heap.size (vIn []) ∧ Below w.heap.size w W2) := ⟨hW2, HW.out.2.2.trans (hF2.below (by omega) HW.out.2.2.size)⟩
    clear hW2 hF2
    go_wp2
    refine bodyPost_ret (results_cell2 (by rfl) (by rfl) (by rfl) HW2.out.1.load) rfl ⟨?_, HW2.out.2⟩
    rfl
theorem from_any (v : Value) (l : List (Int × Int)) (w : World) (h : PairsV w w.heap.size v l) :
    Calls Tryz.prog 46 #[v] w fun e w' => Fromed l w e w' := by
  obtain ⟨ao, cap, rfl, hm, h⟩ := h
  rcases h with rfl | ⟨b, off, rfl, hb, hs⟩
  · exact from_none ao cap w
  · exact from_at b off cap _ l w rfl hm hb hs
end Go.Proofs.YtlbmcdoldnajoaaGreat
namespace Go.Proofs.YtlbmcdoldnajoaaGreat
open Go.RowKit
def wrCells (p : Int → Option Int) : List Value := (List.range 16).map (fun k : Nat => Value.bool (p k).isSome)
theorem length_wrCells (p : Int → Option Int) : (wrCells p).length = 16 := by simp [wrCells]
theorem wrCells_set (p q : Int → Option Int) (k : Nat) (h : ∀ j : Nat, j < 16 → (q j).isSome = (decide (j = k) || (p j).isSome)) : (wrCells p).set k (.bool true) = wrCells q := by
  unfold wrCells
  rw [map_range_set]
  refine List.map_congr_left (fun j hj => ?_)
  rw [h j (List.mem_range.1 hj)]
  by_cases e : j = k
  · rw [if_pos e]; simp [e]
  · rw [if_neg e]; simp [e]
def rdCells (r : List Bool) : List Value := r.map Value.bool
theorem length_rdCells (r : List Bool) : (rdCells r).length = r.length := by simp [rdCells]
def engCells (st : Int) (x : Mo) (f : Int → Int) (tv : Value) : List Value :=
  (.int .i64 st :: .int .i64 (x.pc : Int) :: .int .i64 (x.done : Int) :: x.regs.map (Value.int .i64)) ++ mapCells f ++ (rdCells x.read ++ (wrCells x.puts ++ [tv]))
theorem engCells_len {st : Int} {x : Mo} {f : Int → Int} {tv : Value} (h : x.regs.length = 4) (h' : x.read.length = 16) : (engCells st x f tv).length = 72 := by simp [engCells, length_mapCells, length_wrCells, length_rdCells, h, h']
theorem mid_set (pre cs post : List Value) (i : Nat) (v : Value) (hi : i < cs.length) : (pre ++ cs ++ post).set (pre.length + i) v = pre ++ cs.set i v ++ post := by
  rw [List.set_append_left _ _ (by simp; omega), List.set_append_right _ _ (by omega), Nat.add_sub_cancel_left]
structure Spot where
  b : Nat
  o : Nat
  pre : List Value
  post : List Value
  ty : TypeId
structure Eng (S : Nat → Prop) (w : World) (px : Spot) (tv : Value) (st : Int) (x : Mo) (f : Int → Int) : Prop where
  inS : S px.b
  tS : ∀ k, tv.ownBlock = some k → S k
  off : px.pre.length = px.o
  tyne : (3 : TypeId) ≠ px.ty
  blk : w.heap[px.b]? = some (.cells (px.pre ++ engCells st x f tv ++ px.post).toArray px.ty (0, 0))
  rlen : x.regs.length = 4
  dlen : x.read.length = 16
  told : w.ownsRow 0 3 1 tv x.told.length (x.told.map (Value.int .i64))
namespace Eng
variable {S : Nat → Prop} {w : World} {px : Spot} {tv : Value} {st : Int} {x : Mo} {f : Int → Int}
theorem ne_t (h : Eng S w px tv st x f) : tv.ownBlock ≠ some px.b := owns_ne h.told h.blk h.tyne
theorem fPx (h : Eng S w px tv st x f) (i : Nat) : w.frozen? ⟨px.b, i, none⟩ = false := blk_free h.blk
theorem lt (h : Eng S w px tv st x f) : px.b < w.heap.size := blk_lt h.blk
theorem range (h : Eng S w px tv st x f) : w.rangeAt px.b px.o (engCells st x f tv) := blk_rangeAt h.blk h.off
theorem cSt (h : Eng S w px tv st x f) : w.cell? ⟨px.b, px.o, none⟩ = some (.int .i64 st) := h.range 0 _ rfl
theorem cPc (h : Eng S w px tv st x f) : w.cell? ⟨px.b, px.o + 1, none⟩ = some (.int .i64 (x.pc : Int)) := h.range 1 _ rfl
theorem cDone (h : Eng S w px tv st x f) : w.cell? ⟨px.b, px.o + 2, none⟩ = some (.int .i64 (x.done : Int)) := h.range 2 _ rfl
theorem cReg (h : Eng S w px tv st x f) {n : Nat} (hn : n < 4) : w.cell? ⟨px.b, px.o + 3 + n, none⟩ = some (.int .i64 (x.regs.getD n 0)) := by
  have hl := h.rlen
  rw [Nat.add_assoc]
  refine h.range (3 + n) _ ?_
  rw [engCells, List.append_assoc, List.getElem?_append_left (by simp; omega), show 3 + n = n + 1 + 1 + 1 by omega]
  simp [List.getD, show n < x.regs.length by omega]
theorem rangeD (h : Eng S w px tv st x f) : w.rangeAt px.b (px.o + 39) (rdCells x.read) := fun j v hj => by
  have hl := h.rlen
  have hd := h.dlen
  have hj16 : j < 16 := by have := (List.getElem?_eq_some_iff.1 hj).1; rw [length_rdCells] at this; omega
  rw [Nat.add_assoc]
  refine h.range (39 + j) _ ?_
  rw [engCells, List.getElem?_append_right (by simp [length_mapCells]; omega), List.getElem?_append_left (by simp [length_mapCells, length_rdCells]; omega), show 39 + j - ((Value.int .i64 st :: .int .i64 (x.pc : Int) :: .int .i64 (x.done : Int) :: x.regs.map (Value.int .i64)) ++ mapCells f).length = j by simp [length_mapCells, hl] <;> omega]
  exact hj
theorem cRd (h : Eng S w px tv st x f) {n : Nat} (hn : n < 16) : w.cell? ⟨px.b, px.o + 39 + n, none⟩ = some (.bool (x.read.getD n false)) := by
  refine h.rangeD n _ ?_
  have hd := h.dlen
  simp [rdCells, List.getD, show n < x.read.length by omega]
theorem rangeW (h : Eng S w px tv st x f) : w.rangeAt px.b (px.o + 55) (wrCells x.puts) := fun j v hj => by
  have hl := h.rlen
  have hd := h.dlen
  have hj16 : j < 16 := by have := (List.getElem?_eq_some_iff.1 hj).1; rwa [length_wrCells] at this
  rw [Nat.add_assoc]
  refine h.range (55 + j) _ ?_
  rw [engCells, List.getElem?_append_right (by simp [length_mapCells]; omega), List.getElem?_append_right (by simp [length_mapCells, length_rdCells]; omega), List.getElem?_append_left (by simp [length_mapCells, length_wrCells, length_rdCells]; omega), show 55 + j - ((Value.int .i64 st :: .int .i64 (x.pc : Int) :: .int .i64 (x.done : Int) :: x.regs.map (Value.int .i64)) ++ mapCells f).length - (rdCells x.read).length = j by simp [length_mapCells, length_rdCells, hl, hd] <;> omega]
  exact hj
theorem cWr (h : Eng S w px tv st x f) {n : Nat} (hn : n < 16) : w.cell? ⟨px.b, px.o + 55 + n, none⟩ = some (.bool (x.puts n).isSome) := h.rangeW n _ (by simp [wrCells, hn])
theorem cTold (h : Eng S w px tv st x f) : w.cell? ⟨px.b, px.o + 71, none⟩ = some tv := by
  have hl := h.rlen
  have hd := h.dlen
  refine h.range 71 _ ?_
  rw [engCells, ← List.append_assoc, ← List.append_assoc, List.getElem?_append_right (by simp [length_mapCells, length_wrCells, length_rdCells]; omega)]
  simp [length_mapCells, length_wrCells, length_rdCells, hl, hd]
theorem map (h : Eng S w px tv st x f) : MapAt w px.b (px.o + 7) f := fun j v hj => by
  have hl := h.rlen
  have hj32 : j < 32 := by have := (List.getElem?_eq_some_iff.1 hj).1; rwa [length_mapCells] at this
  rw [Nat.add_assoc]
  refine h.range (7 + j) _ ?_
  rw [engCells, List.getElem?_append_left (by simp [length_mapCells]; omega), List.getElem?_append_right (by simp; omega)]
  simp [hl, show 7 + j - (4 + 1 + 1 + 1) = j by omega]
  exact hj
theorem set1 (h : Eng S w px tv st x f) {i : Nat} {v : Value} {st' : Int} {x' : Mo} {f' : Int → Int} (hi : i < 72) (he : (engCells st x f tv).set i v = engCells st' x' f' tv) (hl : x'.regs.length = 4) (hd : x'.read.length = 16) (ht : x'.told = x.told) : Eng S (w.setCell ⟨px.b, px.o + i, none⟩ v) px tv st' x' f' :=
  ⟨h.inS, h.tS, h.off, h.tyne, by rw [blk_set h.blk, List.setIfInBounds_toArray, ← h.off, mid_set _ _ _ _ _ (by rw [engCells_len h.rlen h.dlen]; exact hi), he], hl, hd, by rw [ht]; exact owns_set h.told h.ne_t _ _⟩
theorem set2 (h : Eng S w px tv st x f) {i j : Nat} {v u : Value} {st' : Int} {x' : Mo} {f' : Int → Int} (hi : i < 72) (hj : j < 72) (he : ((engCells st x f tv).set i v).set j u = engCells st' x' f' tv) (hl : x'.regs.length = 4) (hd : x'.read.length = 16) (ht : x'.told = x.told) : Eng S ((w.setCell ⟨px.b, px.o + i, none⟩ v).setCell ⟨px.b, px.o + j, none⟩ u) px tv st' x' f' :=
  ⟨h.inS, h.tS, h.off, h.tyne, by rw [blk_set (blk_set h.blk _ _), List.setIfInBounds_toArray, List.setIfInBounds_toArray, ← h.off, mid_set _ _ _ _ _ (by rw [engCells_len h.rlen h.dlen]; exact hi), mid_set _ _ _ _ _ (by rw [List.length_set, engCells_len h.rlen h.dlen]; exact hj), he], hl, hd, by rw [ht]; exact owns_set (owns_set h.told h.ne_t _ _) h.ne_t _ _⟩
theorem setSt (h : Eng S w px tv st x f) (s : Int) : Eng S (w.setCell ⟨px.b, px.o, none⟩ (.int .i64 s)) px tv s x f := h.set1 (i := 0) (by omega) rfl h.rlen h.dlen rfl
theorem setPc (h : Eng S w px tv st x f) (n : Nat) : Eng S (w.setCell ⟨px.b, px.o + 1, none⟩ (.int .i64 (n : Int))) px tv st { x with pc := n } f := h.set1 (by omega) rfl h.rlen h.dlen rfl
theorem setDone (h : Eng S w px tv st x f) (n : Nat) : Eng S (w.setCell ⟨px.b, px.o + 2, none⟩ (.int .i64 (n : Int))) px tv st { x with done := n } f := h.set1 (by omega) rfl h.rlen h.dlen rfl
theorem setR (h : Eng S w px tv st x f) {n : Nat} (hn : n < 4) (v : Int) : Eng S (w.setCell ⟨px.b, px.o + 3 + n, none⟩ (.int .i64 v)) px tv st { x with regs := x.regs.set n v } f := by
  rw [Nat.add_assoc]
  refine h.set1 (by omega) ?_ (by simpa using h.rlen) h.dlen rfl
  have hl := h.rlen
  rw [engCells, engCells, List.append_assoc, List.append_assoc, List.set_append_left _ _ (by simp; omega), show 3 + n = n + 1 + 1 + 1 by omega, List.set_cons_succ, List.set_cons_succ, List.set_cons_succ, ← List.map_set]
theorem setW (h : Eng S w px tv st x f) {n : Nat} (hn : n < 16) (q : Int → Option Int) (hq : ∀ j : Nat, j < 16 → (q j).isSome = (decide (j = n) || (x.puts j).isSome)) : Eng S (w.setCell ⟨px.b, px.o + 55 + n, none⟩ (.bool true)) px tv st { x with puts := q } f := by
  rw [Nat.add_assoc]
  refine h.set1 (by omega) ?_ h.rlen h.dlen rfl
  have hl := h.rlen
  have hd := h.dlen
  rw [engCells, engCells, List.set_append_right _ _ (by simp [length_mapCells]; omega), List.set_append_right _ _ (by simp [length_mapCells, length_rdCells]; omega), List.set_append_left _ _ (by simp [length_mapCells, length_wrCells, length_rdCells]; omega), show 55 + n - ((Value.int .i64 st :: .int .i64 (x.pc : Int) :: .int .i64 (x.done : Int) :: x.regs.map (Value.int .i64)) ++ mapCells f).length - (rdCells x.read).length = n by simp [length_mapCells, length_rdCells, hl, hd] <;> omega, wrCells_set x.puts q n hq]
theorem setD (h : Eng S w px tv st x f) {n : Nat} (hn : n < 16) : Eng S (w.setCell ⟨px.b, px.o + 39 + n, none⟩ (.bool true)) px tv st { x with read := x.read.set n true } f := by
  rw [Nat.add_assoc]
  refine h.set1 (by omega) ?_ h.rlen (by simpa using h.dlen) rfl
  have hl := h.rlen
  have hd := h.dlen
  rw [engCells, engCells, List.set_append_right _ _ (by simp [length_mapCells]; omega), List.set_append_left _ _ (by simp [length_mapCells, length_rdCells]; omega), show 39 + n - ((Value.int .i64 st :: .int .i64 (x.pc : Int) :: .int .i64 (x.done : Int) :: x.regs.map (Value.int .i64)) ++ mapCells f).length = n by simp [length_mapCells, hl] <;> omega]
  simp only [rdCells, List.map_set]
theorem putM (h : Eng S w px tv st x f) {k v : Int} (h0 : 0 ≤ k) (h1 : k ≤ 15) (hv : 0 ≤ v) :
    Eng S ((w.setCell ⟨px.b, px.o + 7 + k.toNat, none⟩ (.bool true)).setCell ⟨px.b, px.o + 7 + 16 + k.toNat, none⟩ (.int .i64 v)) px tv st x (fun j => if k = j then v else f j) := by
  obtain ⟨n, rfl⟩ : ∃ n : Nat, k = n := ⟨k.toNat, by omega⟩
  rw [Nat.add_assoc px.o 7, Nat.add_assoc px.o 7, Nat.add_assoc px.o (7 + 16)]
  refine h.set2 (by omega) (by omega) ?_ h.rlen h.dlen rfl
  have hl := h.rlen
  have e7 : (Value.int .i64 st :: .int .i64 (x.pc : Int) :: .int .i64 (x.done : Int) :: x.regs.map (Value.int .i64)).length = 7 := by simp [hl]
  rw [Int.toNat_natCast, Nat.add_assoc, ← e7, engCells, engCells, mid_set _ _ _ _ _ (by rw [length_mapCells]; omega), mid_set _ _ _ _ _ (by rw [List.length_set, length_mapCells]; omega), mapCells_put _ _ _ (by omega) hv]
theorem delM (h : Eng S w px tv st x f) {k : Int} (h0 : 0 ≤ k) (h1 : k ≤ 15) :
    Eng S ((w.setCell ⟨px.b, px.o + 7 + k.toNat, none⟩ (.bool false)).setCell ⟨px.b, px.o + 7 + 16 + k.toNat, none⟩ (.int .i64 0)) px tv st x (fun j => if k = j then -1 else f j) := by
  obtain ⟨n, rfl⟩ : ∃ n : Nat, k = n := ⟨k.toNat, by omega⟩
  rw [Nat.add_assoc px.o 7, Nat.add_assoc px.o 7, Nat.add_assoc px.o (7 + 16)]
  refine h.set2 (by omega) (by omega) ?_ h.rlen h.dlen rfl
  have hl := h.rlen
  have e7 : (Value.int .i64 st :: .int .i64 (x.pc : Int) :: .int .i64 (x.done : Int) :: x.regs.map (Value.int .i64)).length = 7 := by simp [hl]
  rw [Int.toNat_natCast, Nat.add_assoc, ← e7, engCells, engCells, mid_set _ _ _ _ _ (by rw [length_mapCells]; omega), mid_set _ _ _ _ _ (by rw [List.length_set, length_mapCells]; omega), mapCells_del _ _ (by omega)]
theorem congr (h : Eng S w px tv st x f) {x' : Mo} {f' : Int → Int} {st' : Int} (e1 : x = x') (e2 : f = f') (e3 : st = st') : Eng S w px tv st' x' f' := e1 ▸ e2 ▸ e3 ▸ h
theorem like (h : Eng S w px tv st x f) {x' : Mo} (e1 : x'.pc = x.pc) (e2 : x'.done = x.done) (e3 : x'.regs = x.regs) (e4 : x'.told = x.told) (e5 : x'.puts = x.puts) (e6 : x'.read = x.read) : Eng S w px tv st x' f :=
  ⟨h.inS, h.tS, h.off, h.tyne, by rw [h.blk, engCells, engCells, e1, e2, e3, e5, e6], by rw [e3]; exact h.rlen, by rw [e6]; exact h.dlen, by rw [e4]; exact h.told⟩
theorem fr {w' : World} {R : Nat → Prop} (h : Eng S w px tv st x f) (hf : Fr R w w') (hS : ∀ k, (k = px.b ∨ tv.ownBlock = some k) → ¬ R k) : Eng S w' px tv st x f :=
  ⟨h.inS, h.tS, h.off, h.tyne, hf.blk h.blk (hS _ (Or.inl rfl)), h.rlen, h.dlen, owns_fr h.told hf (fun _ hk => hS _ (Or.inr hk))⟩
theorem alloc (h : Eng S w px tv st x f) (o : Obj) : Eng S (w.alloc o) px tv st x f := h.fr ((Fr.refl (fun _ => False) w).alloc o) (fun _ _ hs => hs)
theorem drew (h : Eng S w px tv st x f) : Eng S w.drew px tv st x f := h.fr ((Fr.refl (fun _ => False) w).drew) (fun _ _ hs => hs)
theorem drewN (h : Eng S w px tv st x f) (n : Nat) : Eng S (w.drewN n) px tv st x f := h.fr ((Fr.refl (fun _ => False) w).drewN n) (fun _ _ hs => hs)
end Eng
theorem register_any (S : Nat → Prop) (w : World) (px : Spot) (tv : Value) (st : Int) (x : Mo) (f : Int → Int) (a : Int) (h : Eng S w px tv st x f) (h0 : 0 ≤ a) (h1 : a ≤ 3) :
    Calls Tryz.prog 95 #[.pointer (some ⟨px.b, px.o, none⟩), .int .i64 a] w fun e w' => e = .returned (.int .i64 (reg x a)) ∧ w' = w := by
  obtain ⟨n, rfl⟩ : ∃ n : Nat, a = n := ⟨a.toNat, by omega⟩
  have c := h.cReg (n := n) (by omega)
  clear h
  go_enter Tryz.func95, Tryz.ntmps95
  go_wp2
  go_ret
  exact ⟨ret_int (by simp [reg]), rfl⟩
def Became (S : Nat → Prop) (w : World) (px : Spot) (tv : Value) (st : Int) (x : Mo) (f : Int → Int) (a v : Int) (e : Ending) (w' : World) : Prop :=
  e = .returned (.tuple #[]) ∧ Eng S w' px tv (if v < 0 ∨ 9999 < v then 5 else st) (bec x a v) f ∧ Fr S w w'
theorem become_any (S : Nat → Prop) (w : World) (px : Spot) (tv : Value) (st : Int) (x : Mo) (f : Int → Int) (a v : Int) (h : Eng S w px tv st x f) (h0 : 0 ≤ a) (h1 : a ≤ 3) :
    Calls Tryz.prog 99 #[.pointer (some ⟨px.b, px.o, none⟩), .int .i64 a, .int .i64 v] w fun e w' => Became S w px tv st x f a v e w' := by
  obtain ⟨n, rfl⟩ : ∃ n : Nat, a = n := ⟨a.toNat, by omega⟩
  have c0 := h.cSt
  have c := h.cReg (n := n) (by omega)
  have f0 := h.fPx px.o
  have f1 := h.fPx (px.o + 3 + n)
  have H : Hid (Eng S w px tv st x f) := h
  clear h
  rcases (show v < 0 ∨ (0 ≤ v ∧ 9999 < v) ∨ (0 ≤ v ∧ v ≤ 9999) by omega) with k | ⟨k, k'⟩ | ⟨k, k'⟩
  · go_enter Tryz.func99, Tryz.ntmps99
    go_wp2
    refine bodyPost_ret (results_none rfl _ _ _) rfl ?_
    refine ⟨rfl, ?_, (Fr.refl _ _).setCell (p := ⟨px.b, _, none⟩) (fun _ => H.out.inS) _⟩
    rw [if_pos (Or.inl k), bec, if_pos (Or.inl k)]
    exact (H.out.setSt 5).like rfl rfl rfl rfl rfl rfl
  · have k1 : ¬ v < 0 := by omega
    clear k
    go_enter Tryz.func99, Tryz.ntmps99
    go_wp2
    refine bodyPost_ret (results_none rfl _ _ _) rfl ?_
    refine ⟨rfl, ?_, (Fr.refl _ _).setCell (p := ⟨px.b, _, none⟩) (fun _ => H.out.inS) _⟩
    rw [if_pos (Or.inr k'), bec, if_pos (Or.inr k')]
    exact (H.out.setSt 5).like rfl rfl rfl rfl rfl rfl
  · have k1 : ¬ v < 0 := by omega
    have k2 : ¬ 9999 < v := by omega
    have n4 : (n : Int) < 4 := by omega
    clear k k'
    go_enter Tryz.func99, Tryz.ntmps99
    go_wp2
    go_end0
    refine ⟨rfl, ?_, (Fr.refl _ _).setCell (p := ⟨px.b, _, none⟩) (fun _ => H.out.inS) _⟩
    rw [if_neg (by omega), bec, if_neg (by omega)]
    exact (H.out.setR (by omega) v).congr (by simp [setReg]) rfl rfl
end Go.Proofs.YtlbmcdoldnajoaaGreat
namespace Go.Proofs.YtlbmcdoldnajoaaGreat
open Go.RowKit
theorem below_drewN {B : Nat} {w w' : World} (h : Below B w w') (n : Nat) : Below B w (w'.drewN n) := ⟨h.os, h.tape, h.output, h.size, h.block⟩
def numE (s : St) (x : Mo) (f : Int → Int) : Int :=
  if s.op = 1 then s.b else if s.op = 2 then pos (f s.b) else if s.op = 5 then sumK f s.b (s.c - s.b + 1).toNat else if s.op = 6 then cntK f s.b (s.c - s.b + 1).toNat
  else if s.op = 7 then reg x s.a + reg x s.b else reg x s.a - reg x s.b
def Numb (s : St) (x : Mo) (f : Int → Int) (S : Nat → Prop) (px : Spot) (tv : Value) (st : Int) (y : Mo) (w : World) (e : Ending) (w' : World) : Prop := e = .returned (.int .i64 (numE s x f)) ∧ Eng S w' px tv st y f ∧ Fr (fun k => k = px.b) w w'
def askR (puts : Int → Option Int) (rd : List Bool) (p q : Int) : Nat → List Bool
  | 0 => rd
  | t + 1 => if p ≤ t ∧ (t : Int) ≤ q then mark puts (askR puts rd p q t) t else askR puts rd p q t
theorem askR_K (puts : Int → Option Int) (rd : List Bool) {b c : Int} (hb : 0 ≤ b) (hc : b ≤ c) : ∀ t : Nat, askR puts rd b c t = markK puts rd b (min (t : Int) (c + 1) - b).toNat
  | 0 => by rw [show (min ((0 : Nat) : Int) (c + 1) - b).toNat = 0 by omega]; rfl
  | t + 1 => by
    rw [askR, askR_K puts rd hb hc t]
    by_cases h : b ≤ t ∧ (t : Int) ≤ c
    · rw [if_pos h, show (min ((t + 1 : Nat) : Int) (c + 1) - b).toNat = (min (t : Int) (c + 1) - b).toNat + 1 by omega, markK, show b + ((min (t : Int) (c + 1) - b).toNat : Int) = t by omega]
    · rw [if_neg h, show (min ((t + 1 : Nat) : Int) (c + 1) - b).toNat = (min (t : Int) (c + 1) - b).toNat by omega]
theorem askR_all (puts : Int → Option Int) (rd : List Bool) {b c : Int} (hb : 0 ≤ b) (hc : b ≤ c) (hc' : c ≤ 15) : askR puts rd b c 16 = markK puts rd b (c - b + 1).toNat := by
  rw [askR_K puts rd hb hc, show (min ((16 : Nat) : Int) (c + 1) - b).toNat = (c - b + 1).toNat by omega]
theorem add_any (w : World) (b o : Nat) (u : Value) (k : Int) (c : w.cell? ⟨b, o + k.toNat, none⟩ = some u) (hf : w.frozen? ⟨b, o + k.toNat, none⟩ = false) (h0 : 0 ≤ k) (h1 : k ≤ 15) :
    Calls Tryz.prog 96 #[.pointer (some ⟨b, o, none⟩), .int .i64 k] w fun e w' => e = .returned (.tuple #[]) ∧ w' = w.setCell ⟨b, o + k.toNat, none⟩ (.bool true) := by
  obtain ⟨n, rfl⟩ : ∃ n : Nat, k = n := ⟨k.toNat, by omega⟩
  rw [Int.toNat_natCast] at c hf
  have n16 : (n : Int) < 16 := by omega
  go_enter Tryz.func96, Tryz.ntmps96
  go_wp2
  go_end0
  exact ⟨rfl, by simp⟩
theorem has_any (w : World) (b o : Nat) (u : Bool) (k : Int) (c : w.cell? ⟨b, o + k.toNat, none⟩ = some (.bool u)) (h0 : 0 ≤ k) (h1 : k ≤ 15) :
    Calls Tryz.prog 78 #[.pointer (some ⟨b, o, none⟩), .int .i64 k] w fun e w' => e = .returned (.bool u) ∧ w' = w := by
  obtain ⟨n, rfl⟩ : ∃ n : Nat, k = n := ⟨k.toNat, by omega⟩
  rw [Int.toNat_natCast] at c
  have n16 : (n : Int) < 16 := by omega
  go_enter Tryz.func78, Tryz.ntmps78
  go_wp2
  go_ret
  exact ⟨rfl, rfl⟩
def Asked (S : Nat → Prop) (px : Spot) (tv : Value) (st : Int) (y : Mo) (f : Int → Int) (w : World) (e : Ending) (w' : World) : Prop := e = .returned (.tuple #[]) ∧ Eng S w' px tv st y f ∧ Fr (fun k => k = px.b) w w'
theorem ask_any (S : Nat → Prop) (w : World) (px : Spot) (tv : Value) (st : Int) (x : Mo) (f : Int → Int) (p q : Int) (h : Eng S w px tv st x f) (h0 : 0 ≤ p) (h1 : p ≤ q) (h2 : q ≤ 15) :
    Calls Tryz.prog 110 #[.pointer (some ⟨px.b, px.o, none⟩), .int .i64 p, .int .i64 q] w fun e w' => Asked S px tv st { x with read := markK x.puts x.read p (q - p + 1).toNat } f w e w' := by
  rw [← askR_all x.puts x.read h0 h1 h2]
  have H : Hid (Eng S w px tv st x f) := h
  clear h
  go_enter Tryz.func110, Tryz.ntmps110
  go_wp2
  go_loopw [6] (fun i wr => ∃ j : Nat, j ≤ 16 ∧ i = .int .i64 j ∧ Eng S wr px tv st { x with read := askR x.puts x.read p q j } f ∧ Fr (fun k => k = px.b) w wr) (fun i _ => 16 - (intOf i).toNat)
  case atStart => exact ⟨0, Nat.zero_le _, rfl, H.out, Fr.refl _ _⟩
  case round =>
    obtain ⟨j, hj, rfl, hE, hfr⟩ := hrel
    have HR : Hid (Eng S wr px tv st { x with read := askR x.puts x.read p q j } f ∧ Fr (fun k => k = px.b) w wr) := ⟨hE, hfr⟩
    clear hE hfr
    have hst : askR x.puts x.read p q (j + 1) = if p ≤ j ∧ (j : Int) ≤ q then mark x.puts (askR x.puts x.read p q j) j else askR x.puts x.read p q j := rfl
    have HSt : Hid (askR x.puts x.read p q (j + 1) = if p ≤ j ∧ (j : Int) ≤ q then mark x.puts (askR x.puts x.read p q j) j else askR x.puts x.read p q j) := hst
    clear hst
    by_cases hlt : j < 16
    · have hj' : (j : Int) < 16 := by omega
      by_cases k1 : p ≤ (j : Int)
      · by_cases k2 : (j : Int) ≤ q
        · have c := HR.out.1.cWr (n := j) hlt
          have hmk : Hid (mark x.puts (askR x.puts x.read p q j) j = if (x.puts j).isSome then askR x.puts x.read p q j else (askR x.puts x.read p q j).set j true) := by show _ = _; simp [mark]
          cases hp : (x.puts j).isSome
          · have c' : wr.cell? ⟨px.b, px.o + 55 + j, none⟩ = some (.bool false) := by rw [c]; show some (Value.bool (x.puts j).isSome) = _; rw [hp]
            clear c
            go_wp2_with fail
            refine (has_any _ px.b (px.o + 55) false j (by rw [Int.toNat_natCast]; exact c') (by omega) (by omega)).mono ?_
            rintro e W2 ⟨rfl, hW⟩
            obtain rfl := hW.symm
            clear hW
            go_wp2_with fail
            refine (add_any _ px.b (px.o + 39) _ j (by rw [Int.toNat_natCast]; exact HR.out.1.cRd hlt) (by rw [Int.toNat_natCast]; exact HR.out.1.fPx _) (by omega) (by omega)).mono ?_
            rintro e W3 ⟨rfl, hW3⟩
            have HX : Hid (Eng S W3 px tv st { x with read := askR x.puts x.read p q (j + 1) } f ∧ Fr (fun k => k = px.b) w W3) := by
              subst hW3
              rw [HSt.out, if_pos ⟨k1, k2⟩, hmk.out, hp]
              exact ⟨HR.out.1.setD hlt, HR.out.2.setCell (p := ⟨px.b, _, none⟩) (fun _ => rfl) _⟩
            clear hW3
            go_wp2
            go_roundw
            case rel => exact ⟨j + 1, by omega, by go_num, HX.out.1, HX.out.2⟩
            case measure => simp [intOf]; omega
          · have c' : wr.cell? ⟨px.b, px.o + 55 + j, none⟩ = some (.bool true) := by rw [c]; show some (Value.bool (x.puts j).isSome) = _; rw [hp]
            clear c
            go_wp2_with fail
            refine (has_any _ px.b (px.o + 55) true j (by rw [Int.toNat_natCast]; exact c') (by omega) (by omega)).mono ?_
            rintro e W2 ⟨rfl, hW⟩
            obtain rfl := hW.symm
            clear hW
            go_wp2
            go_roundw
            case rel => exact ⟨j + 1, by omega, by go_num, by rw [HSt.out, if_pos ⟨k1, k2⟩, hmk.out, hp]; exact HR.out.1, HR.out.2⟩
            case measure => simp [intOf]; omega
        · go_wp2
          go_roundw
          case rel => exact ⟨j + 1, by omega, by go_num, by rw [HSt.out, if_neg (fun h => k2 h.2)]; exact HR.out.1, HR.out.2⟩
          case measure => simp [intOf]; omega
      · go_wp2
        go_roundw
        case rel => exact ⟨j + 1, by omega, by go_num, by rw [HSt.out, if_neg (fun h => k1 h.1)]; exact HR.out.1, HR.out.2⟩
        case measure => simp [intOf]; omega
    · have hj' : ¬ ((j : Int) < 16) := by omega
      obtain rfl : j = 16 := by omega
      go_wp2
      go_end0
      exact ⟨rfl, HR.out.1, HR.out.2⟩
theorem number_1 (S : Nat → Prop) (w : World) (px : Spot) (tv : Value) (st : Int) (x : Mo) (f : Int → Int) (a b c : Int) (h : Eng S w px tv st x f) (h1 : 0 ≤ a) (h2 : a ≤ 3) :
    Calls Tryz.prog 98 #[.pointer (some ⟨px.b, px.o, none⟩), .agg #[.int .i64 1, .int .i64 a, .int .i64 b, .int .i64 c]] w fun e w' => Numb ⟨1, a, b, c⟩ x f S px tv st x w e w' := by
  have H : Hid (Eng S w px tv st x f) := h
  clear h
  go_enter Tryz.func98, Tryz.ntmps98
  go_wp2_with (first | (go_at_call 95; refine (register_any S _ px tv st x f _ (H.out.alloc _) (by omega) (by omega)).mono ?_; rintro e w' ⟨rfl, rfl⟩))
  go_ret
  exact ⟨ret_int (by simp [numE]), H.out.alloc _, (Fr.refl _ _).alloc _⟩
theorem number_2 (S : Nat → Prop) (w : World) (px : Spot) (tv : Value) (st : Int) (x : Mo) (f : Int → Int) (a b c : Int) (h : Eng S w px tv st x f) (h1 : 0 ≤ a) (h2 : a ≤ 3) (h3 : 0 ≤ b) (h4 : b ≤ 15) :
    Calls Tryz.prog 98 #[.pointer (some ⟨px.b, px.o, none⟩), .agg #[.int .i64 2, .int .i64 a, .int .i64 b, .int .i64 c]] w fun e w' => Numb ⟨2, a, b, c⟩ x f S px tv st { x with read := mark x.puts x.read b } w e w' := by
  have H : Hid (Eng S w px tv st x f) := h
  clear h
  go_enter Tryz.func98, Tryz.ntmps98
  go_wp2_with (go_at_call 95; refine (register_any S _ px tv st x f _ (H.out.alloc _) (by omega) (by omega)).mono ?_; rintro e w' ⟨rfl, rfl⟩)
  have HA : Hid (Eng S (w.alloc (.cells #[.int .i64 2, .int .i64 a, .int .i64 b, .int .i64 c] 95)) px tv st x f) := H.out.alloc _
  have hlt := H.out.lt
  refine (ask_any S _ px tv st x f b b HA.out (by omega) (by omega) (by omega)).mono ?_
  rintro e W2 ⟨rfl, hE, hF⟩
  have cb : W2.cell? ⟨w.heap.size, 2, none⟩ = some (.int .i64 b) := (hF.cell (b := w.heap.size) (o := 2) (by simp) (by omega)).trans (by rw [blk_cell (heap_alloc_new w _)]; rfl)
  have cc : W2.cell? ⟨w.heap.size, 3, none⟩ = some (.int .i64 c) := (hF.cell (b := w.heap.size) (o := 3) (by simp) (by omega)).trans (by rw [blk_cell (heap_alloc_new w _)]; rfl)
  have HW : Hid (Eng S W2 px tv st { x with read := mark x.puts x.read b } f ∧ Fr (fun k => k = px.b) w W2) := ⟨by simpa [markK] using hE, ((Fr.refl _ _).alloc _).trans hF (fun _ _ h => h)⟩
  have HM : Hid (∀ n, MapAt (W2.drewN n) px.b (px.o + 7) f) := fun n => (HW.out.1.drewN n).map
  clear hE hF
  go_wp2_with fail
  go_quiet ((go_at_call 111; exact Calls.quiet_of_same (value_any _ px.b (px.o + 7) f _ (HM.out _) (by omega) (by omega))))
  go_wp2
  go_ret
  exact ⟨ret_int (by simp [numE]), HW.out.1.drewN _, HW.out.2.drewN _⟩
theorem number_5 (S : Nat → Prop) (w : World) (px : Spot) (tv : Value) (st : Int) (x : Mo) (f : Int → Int) (a b c : Int) (h : Eng S w px tv st x f) (h1 : 0 ≤ a) (h2 : a ≤ 3) (h3 : 0 ≤ b) (h4 : b ≤ c) (h5 : c ≤ 15) (hf : ∀ k, f k ≤ 9999) :
    Calls Tryz.prog 98 #[.pointer (some ⟨px.b, px.o, none⟩), .agg #[.int .i64 5, .int .i64 a, .int .i64 b, .int .i64 c]] w fun e w' => Numb ⟨5, a, b, c⟩ x f S px tv st { x with read := markK x.puts x.read b (c - b + 1).toNat } w e w' := by
  have H : Hid (Eng S w px tv st x f) := h
  clear h
  have HF : Hid (∀ k, f k ≤ 9999) := hf
  clear hf
  go_enter Tryz.func98, Tryz.ntmps98
  go_wp2_with (go_at_call 95; refine (register_any S _ px tv st x f _ (H.out.alloc _) (by omega) (by omega)).mono ?_; rintro e w' ⟨rfl, rfl⟩)
  have HA : Hid (Eng S (w.alloc (.cells #[.int .i64 5, .int .i64 a, .int .i64 b, .int .i64 c] 95)) px tv st x f) := H.out.alloc _
  have hlt := H.out.lt
  refine (ask_any S _ px tv st x f b c HA.out (by omega) (by omega) (by omega)).mono ?_
  rintro e W2 ⟨rfl, hE, hF⟩
  have cb : W2.cell? ⟨w.heap.size, 2, none⟩ = some (.int .i64 b) := (hF.cell (b := w.heap.size) (o := 2) (by simp) (by omega)).trans (by rw [blk_cell (heap_alloc_new w _)]; rfl)
  have cc : W2.cell? ⟨w.heap.size, 3, none⟩ = some (.int .i64 c) := (hF.cell (b := w.heap.size) (o := 3) (by simp) (by omega)).trans (by rw [blk_cell (heap_alloc_new w _)]; rfl)
  have HW : Hid (Eng S W2 px tv st { x with read := markK x.puts x.read b (c - b + 1).toNat } f ∧ Fr (fun k => k = px.b) w W2) := ⟨hE, ((Fr.refl _ _).alloc _).trans hF (fun _ _ h => h)⟩
  have HM : Hid (∀ n, MapAt (W2.drewN n) px.b (px.o + 7) f) := fun n => (HW.out.1.drewN n).map
  clear hE hF
  go_wp2_with fail
  go_quiet ((go_at_call 112; exact Calls.quiet_of_same (sum_any _ px.b (px.o + 7) f _ _ (HM.out _) HF.out (by omega) (by omega) (by omega))))
  go_wp2
  go_ret
  exact ⟨ret_int (by simp [numE]), HW.out.1.drewN _, HW.out.2.drewN _⟩
theorem number_6 (S : Nat → Prop) (w : World) (px : Spot) (tv : Value) (st : Int) (x : Mo) (f : Int → Int) (a b c : Int) (h : Eng S w px tv st x f) (h1 : 0 ≤ a) (h2 : a ≤ 3) (h3 : 0 ≤ b) (h4 : b ≤ c) (h5 : c ≤ 15) :
    Calls Tryz.prog 98 #[.pointer (some ⟨px.b, px.o, none⟩), .agg #[.int .i64 6, .int .i64 a, .int .i64 b, .int .i64 c]] w fun e w' => Numb ⟨6, a, b, c⟩ x f S px tv st { x with read := markK x.puts x.read b (c - b + 1).toNat } w e w' := by
  have H : Hid (Eng S w px tv st x f) := h
  clear h
  go_enter Tryz.func98, Tryz.ntmps98
  go_wp2_with (go_at_call 95; refine (register_any S _ px tv st x f _ (H.out.alloc _) (by omega) (by omega)).mono ?_; rintro e w' ⟨rfl, rfl⟩)
  have HA : Hid (Eng S (w.alloc (.cells #[.int .i64 6, .int .i64 a, .int .i64 b, .int .i64 c] 95)) px tv st x f) := H.out.alloc _
  have hlt := H.out.lt
  refine (ask_any S _ px tv st x f b c HA.out (by omega) (by omega) (by omega)).mono ?_
  rintro e W2 ⟨rfl, hE, hF⟩
  have cb : W2.cell? ⟨w.heap.size, 2, none⟩ = some (.int .i64 b) := (hF.cell (b := w.heap.size) (o := 2) (by simp) (by omega)).trans (by rw [blk_cell (heap_alloc_new w _)]; rfl)
  have cc : W2.cell? ⟨w.heap.size, 3, none⟩ = some (.int .i64 c) := (hF.cell (b := w.heap.size) (o := 3) (by simp) (by omega)).trans (by rw [blk_cell (heap_alloc_new w _)]; rfl)
  have HW : Hid (Eng S W2 px tv st { x with read := markK x.puts x.read b (c - b + 1).toNat } f ∧ Fr (fun k => k = px.b) w W2) := ⟨hE, ((Fr.refl _ _).alloc _).trans hF (fun _ _ h => h)⟩
  have HM : Hid (∀ n, MapAt (W2.drewN n) px.b (px.o + 7) f) := fun n => (HW.out.1.drewN n).map
  clear hE hF
  go_wp2_with fail
  go_quiet ((go_at_call 113; exact Calls.quiet_of_same (count_any _ px.b (px.o + 7) f _ _ (HM.out _) (by omega) (by omega) (by omega))))
  go_wp2
  go_ret
  exact ⟨ret_int (by simp [numE]), HW.out.1.drewN _, HW.out.2.drewN _⟩
theorem number_7 (S : Nat → Prop) (w : World) (px : Spot) (tv : Value) (st : Int) (x : Mo) (f : Int → Int) (a b c : Int) (h : Eng S w px tv st x f) (h1 : 0 ≤ a) (h2 : a ≤ 3) (h3 : 0 ≤ b) (h4 : b ≤ 3) {N : Nat} (hok : MoOk N x) :
    Calls Tryz.prog 98 #[.pointer (some ⟨px.b, px.o, none⟩), .agg #[.int .i64 7, .int .i64 a, .int .i64 b, .int .i64 c]] w fun e w' => Numb ⟨7, a, b, c⟩ x f S px tv st x w e w' := by
  have H : Hid (Eng S w px tv st x f) := h
  clear h
  have hw : IntKind.i64.wrap (reg x a + reg x b) = reg x a + reg x b := by have := reg_le hok a; have := reg_le hok b; rw [IntKind.wrap_i64]; omega
  clear hok
  go_enter Tryz.func98, Tryz.ntmps98
  go_wp2_with (first | (go_at_call 95; refine (register_any S _ px tv st x f _ (H.out.alloc _) (by omega) (by omega)).mono ?_; rintro e w' ⟨rfl, rfl⟩))
  go_ret
  exact ⟨ret_int (by simp [numE]), H.out.alloc _, (Fr.refl _ _).alloc _⟩
theorem number_8 (S : Nat → Prop) (w : World) (px : Spot) (tv : Value) (st : Int) (x : Mo) (f : Int → Int) (a b c : Int) (h : Eng S w px tv st x f) (h1 : 0 ≤ a) (h2 : a ≤ 3) (h3 : 0 ≤ b) (h4 : b ≤ 3) {N : Nat} (hok : MoOk N x) :
    Calls Tryz.prog 98 #[.pointer (some ⟨px.b, px.o, none⟩), .agg #[.int .i64 8, .int .i64 a, .int .i64 b, .int .i64 c]] w fun e w' => Numb ⟨8, a, b, c⟩ x f S px tv st x w e w' := by
  have H : Hid (Eng S w px tv st x f) := h
  clear h
  have hw : IntKind.i64.wrap (reg x a - reg x b) = reg x a - reg x b := by have := reg_le hok a; have := reg_le hok b; rw [IntKind.wrap_i64]; omega
  clear hok
  go_enter Tryz.func98, Tryz.ntmps98
  go_wp2_with (first | (go_at_call 95; refine (register_any S _ px tv st x f _ (H.out.alloc _) (by omega) (by omega)).mono ?_; rintro e w' ⟨rfl, rfl⟩))
  go_ret
  exact ⟨ret_int (by simp [numE]), H.out.alloc _, (Fr.refl _ _).alloc _⟩
end Go.Proofs.YtlbmcdoldnajoaaGreat
namespace Go.Proofs.YtlbmcdoldnajoaaGreat
open Go.RowKit
def Did (S : Nat → Prop) (w : World) (px : Spot) (m : Int → Int) (y : Mo) (e : Ending) (w' : World) : Prop :=
  e = .returned (.tuple #[]) ∧ ∃ tv', Eng S w' px tv' (stOf y) y (see m y.puts) ∧ Fr S w w'
def nxt (x : Mo) : Mo := { x with done := x.done + 1, pc := x.pc + 1 }
theorem see_put (m : Int → Int) (x : Mo) (k v : Int) : see m (putAt x k v).puts = fun j => if k = j then v else see m x.puts j := by
  funext j
  simp only [see, putAt]
  by_cases h : k = j
  · rw [if_pos h, if_pos h]; rfl
  · rw [if_neg h, if_neg h]
theorem Eng.wrote {S : Nat → Prop} {w : World} {px : Spot} {tv : Value} {st : Int} {x : Mo} {f : Int → Int} {k : Int} (h : Eng S w px tv st x f) (h0 : 0 ≤ k) (h1 : k ≤ 15) (v : Int) : Eng S (w.setCell ⟨px.b, px.o + 55 + k.toNat, none⟩ (.bool true)) px tv st (putAt x k v) f := by
  obtain ⟨n, rfl⟩ : ∃ n : Nat, k = n := ⟨k.toNat, by omega⟩
  refine (h.setW (n := n) (by omega) _ (fun j _ => ?_)).congr rfl rfl rfl
  show (if (n : Int) = (j : Int) then some v else x.puts j).isSome = _
  by_cases e : j = n
  · subst e; simp
  · rw [if_neg (by omega)]; simp [e]
theorem do_3 (S : Nat → Prop) (w : World) (px : Spot) (tv : Value) (x : Mo) (m : Int → Int) (a b c : Int) (hfin : x.fin = 0) (h : Eng S w px tv 2 x (see m x.puts)) (hB : ∀ k, w.heap.size ≤ k → S k) (hx : 0 ≤ reg x b) (h1 : 0 ≤ a) (h2 : a ≤ 15) (h3 : 0 ≤ b) (h4 : b ≤ 3) :
    Calls Tryz.prog 89 #[.pointer (some ⟨px.b, px.o, none⟩), .agg #[.int .i64 3, .int .i64 a, .int .i64 b, .int .i64 c]] w fun e w' => Did S w px m (putAt x a (reg x b)) e w' := by
  have H : Hid (Eng S w px tv 2 x (see m x.puts)) := h
  have HF : Hid (stOf (putAt x a (reg x b)) = 2) := by show _ = _; simp [stOf, putAt, hfin]
  have hlt := h.lt
  have HB : Hid (∀ k, w.heap.size ≤ k → S k) := hB
  clear h hfin hB
  obtain ⟨f, hf⟩ : ∃ f, f = see m x.puts := ⟨_, rfl⟩
  have HS : Hid (f = see m x.puts) := hf
  rw [← hf] at H
  clear hf
  go_enter Tryz.func89, Tryz.ntmps89
  go_wp2_with (go_at_call 95; refine (register_any S _ px tv 2 x f _ (H.out.alloc _) (by omega) (by omega)).mono ?_; rintro e w' ⟨rfl, rfl⟩)
  go_region_with (go_at_call 74; refine (put_any _ px.b (px.o + 7) f _ _ ((H.out.alloc _).drewN _).map ((H.out.alloc _).drewN _).fPx (by omega) (by omega)).mono ?_; rintro e W2 ⟨rfl, hW2⟩; have HW : Hid (Eng S W2 px tv 2 x (fun j => if a = j then reg x b else f j) ∧ Fr S w W2) := by { subst hW2; exact ⟨((H.out.alloc _).drewN _).putM h1 h2 hx, ((((Fr.refl _ _).alloc _).drewN _).setCell (p := ⟨px.b, _, none⟩) (fun _ => H.out.inS) _).setCell (p := ⟨px.b, _, none⟩) (fun _ => H.out.inS) _⟩ }; have cb : W2.cell? ⟨w.heap.size, 1, none⟩ = some (.int .i64 a) := by { subst hW2; rw [World.cell?_setCell_other _ _ _ _ (by intro e; injection e with e1; omega), World.cell?_setCell_other _ _ _ _ (by intro e; injection e with e1; omega)]; exact blk_cell (heap_alloc_new w _) }; clear hW2)
  go_wp2_with fail
  go_region_with (go_at_call 96; refine (add_any _ px.b (px.o + 55) _ a ((HW.out.1.drewN _).cWr (n := a.toNat) (by omega)) ((HW.out.1.drewN _).fPx _) h1 h2).mono ?_; rintro e W3 ⟨rfl, hW3⟩; have HV : Hid (Eng S W3 px tv 2 (putAt x a (reg x b)) (fun j => if a = j then (reg x b) else f j) ∧ Fr S w W3) := by { subst hW3; exact ⟨(HW.out.1.drewN _).wrote h1 h2 _, (HW.out.2.drewN _).setCell (p := ⟨px.b, _, none⟩) (fun _ => H.out.inS) _⟩ }; clear hW3)
  go_wp2
  go_end0
  exact ⟨rfl, tv, HV.out.1.congr rfl (by rw [see_put, HS.out]) HF.out.symm, HV.out.2⟩
theorem do_4 (S : Nat → Prop) (w : World) (px : Spot) (tv : Value) (x : Mo) (m : Int → Int) (a b c : Int) (hfin : x.fin = 0) (h : Eng S w px tv 2 x (see m x.puts)) (hB : ∀ k, w.heap.size ≤ k → S k) (h1 : 0 ≤ a) (h2 : a ≤ 15) :
    Calls Tryz.prog 89 #[.pointer (some ⟨px.b, px.o, none⟩), .agg #[.int .i64 4, .int .i64 a, .int .i64 b, .int .i64 c]] w fun e w' => Did S w px m (putAt x a (-1)) e w' := by
  have H : Hid (Eng S w px tv 2 x (see m x.puts)) := h
  have HF : Hid (stOf (putAt x a (-1)) = 2) := by show _ = _; simp [stOf, putAt, hfin]
  have hlt := h.lt
  have HB : Hid (∀ k, w.heap.size ≤ k → S k) := hB
  clear h hfin hB
  obtain ⟨f, hf⟩ : ∃ f, f = see m x.puts := ⟨_, rfl⟩
  have HS : Hid (f = see m x.puts) := hf
  rw [← hf] at H
  clear hf
  go_enter Tryz.func89, Tryz.ntmps89
  go_wp2
  go_region_with (go_at_call 97; refine (del_any _ px.b (px.o + 7) f _ ((H.out.alloc _).drewN _).map ((H.out.alloc _).drewN _).fPx (by omega) (by omega)).mono ?_; rintro e W2 ⟨rfl, hW2⟩; have HW : Hid (Eng S W2 px tv 2 x (fun j => if a = j then -1 else f j) ∧ Fr S w W2) := by { subst hW2; exact ⟨((H.out.alloc _).drewN _).delM h1 h2, ((((Fr.refl _ _).alloc _).drewN _).setCell (p := ⟨px.b, _, none⟩) (fun _ => H.out.inS) _).setCell (p := ⟨px.b, _, none⟩) (fun _ => H.out.inS) _⟩ }; have cb : W2.cell? ⟨w.heap.size, 1, none⟩ = some (.int .i64 a) := by { subst hW2; rw [World.cell?_setCell_other _ _ _ _ (by intro e; injection e with e1; omega), World.cell?_setCell_other _ _ _ _ (by intro e; injection e with e1; omega)]; exact blk_cell (heap_alloc_new w _) }; clear hW2)
  go_wp2_with fail
  go_region_with (go_at_call 96; refine (add_any _ px.b (px.o + 55) _ a ((HW.out.1.drewN _).cWr (n := a.toNat) (by omega)) ((HW.out.1.drewN _).fPx _) h1 h2).mono ?_; rintro e W3 ⟨rfl, hW3⟩; have HV : Hid (Eng S W3 px tv 2 (putAt x a (-1)) (fun j => if a = j then (-1) else f j) ∧ Fr S w W3) := by { subst hW3; exact ⟨(HW.out.1.drewN _).wrote h1 h2 _, (HW.out.2.drewN _).setCell (p := ⟨px.b, _, none⟩) (fun _ => H.out.inS) _⟩ }; clear hW3)
  go_wp2
  go_end0
  exact ⟨rfl, tv, HV.out.1.congr rfl (by rw [see_put, HS.out]) HF.out.symm, HV.out.2⟩
theorem do_12 (S : Nat → Prop) (w : World) (px : Spot) (tv : Value) (x : Mo) (m : Int → Int) (a b c : Int) (h : Eng S w px tv 2 x (see m x.puts)) (hB : ∀ k, w.heap.size ≤ k → S k)  :
    Calls Tryz.prog 89 #[.pointer (some ⟨px.b, px.o, none⟩), .agg #[.int .i64 12, .int .i64 a, .int .i64 b, .int .i64 c]] w fun e w' => Did S w px m { x with fin := 4 } e w' := by
  have H : Hid (Eng S w px tv 2 x (see m x.puts)) := h
  have HF : Hid (stOf { x with fin := 4 } = 4) := by show _ = _; simp [stOf]
  have hlt := h.lt
  have HB : Hid (∀ k, w.heap.size ≤ k → S k) := hB
  clear h hB
  obtain ⟨f, hf⟩ : ∃ f, f = see m x.puts := ⟨_, rfl⟩
  have HS : Hid (f = see m x.puts) := hf
  rw [← hf] at H
  clear hf
  go_enter Tryz.func89, Tryz.ntmps89
  have c0 := H.out.cSt
  have f0 := H.out.fPx px.o
  go_wp2
  go_end0
  refine ⟨rfl, tv, ?_, ((Fr.refl _ _).setCell (p := ⟨px.b, _, none⟩) (fun _ => H.out.inS) _).alloc _⟩
  have h4 : Eng S ((w.setCell ⟨px.b, px.o, none⟩ (.int .i64 4)).alloc (.cells #[.int .i64 12, .int .i64 a, .int .i64 b, .int .i64 c] 95)) px tv 4 { x with fin := 4 } f := ((H.out.setSt 4).alloc _).like rfl rfl rfl rfl rfl rfl
  exact h4.congr rfl HS.out HF.out.symm
theorem do_9y (S : Nat → Prop) (w : World) (px : Spot) (tv : Value) (x : Mo) (m : Int → Int) (a b c : Int) (hfin : x.fin = 0) (h : Eng S w px tv 2 x (see m x.puts)) (hB : ∀ k, w.heap.size ≤ k → S k) (hr : reg x a = 0) (hpc : x.pc ≤ 1000) (h1 : 0 ≤ a) (h2 : a ≤ 3) (h3 : 0 ≤ b) (h4 : b ≤ 32) :
    Calls Tryz.prog 89 #[.pointer (some ⟨px.b, px.o, none⟩), .agg #[.int .i64 9, .int .i64 a, .int .i64 b, .int .i64 c]] w fun e w' => Did S w px m { x with pc := x.pc + b.toNat } e w' := by
  have H : Hid (Eng S w px tv 2 x (see m x.puts)) := h
  have HF : Hid (stOf { x with pc := x.pc + b.toNat } = 2) := by show _ = _; simp [stOf, hfin]
  have hlt := h.lt
  have HB : Hid (∀ k, w.heap.size ≤ k → S k) := hB
  clear h hfin hB
  obtain ⟨f, hf⟩ : ∃ f, f = see m x.puts := ⟨_, rfl⟩
  have HS : Hid (f = see m x.puts) := hf
  rw [← hf] at H
  clear hf
  have c1 := H.out.cPc
  have f1 := H.out.fPx (px.o + 1)
  obtain ⟨n, rfl⟩ : ∃ n : Nat, b = n := ⟨b.toNat, by omega⟩
  have hw : IntKind.i64.wrap ((x.pc : Int) + n) = (x.pc : Int) + n := by rw [IntKind.wrap_i64]; omega
  have HP : Hid (((x.pc + (n : Int).toNat : Nat) : Int) = (x.pc : Int) + n) := by show _ = _; omega
  go_enter Tryz.func89, Tryz.ntmps89
  go_wp2_with (go_at_call 95; refine (register_any S _ px tv 2 x f _ (H.out.alloc _) (by omega) (by omega)).mono ?_; rintro e w' ⟨rfl, rfl⟩)
  go_region
  all_goals
    go_wp2
    go_end0
    refine ⟨rfl, tv, ?_, (((Fr.refl _ _).setCell (p := ⟨px.b, _, none⟩) (fun _ => H.out.inS) _).alloc _).drew⟩
    have := ((H.out.setPc (x.pc + (n : Int).toNat)).alloc (.cells #[.int .i64 9, .int .i64 a, .int .i64 (n : Int), .int .i64 c] 95)).drew
    rw [HP.out] at this
    exact this.congr rfl HS.out HF.out.symm
theorem do_9n (S : Nat → Prop) (w : World) (px : Spot) (tv : Value) (x : Mo) (m : Int → Int) (a b c : Int) (hfin : x.fin = 0) (h : Eng S w px tv 2 x (see m x.puts)) (hB : ∀ k, w.heap.size ≤ k → S k) (hr : ¬ reg x a = 0) (h1 : 0 ≤ a) (h2 : a ≤ 3) :
    Calls Tryz.prog 89 #[.pointer (some ⟨px.b, px.o, none⟩), .agg #[.int .i64 9, .int .i64 a, .int .i64 b, .int .i64 c]] w fun e w' => Did S w px m x e w' := by
  have H : Hid (Eng S w px tv 2 x (see m x.puts)) := h
  have HF : Hid (stOf x = 2) := by show _ = _; simp [stOf, hfin]
  have hlt := h.lt
  have HB : Hid (∀ k, w.heap.size ≤ k → S k) := hB
  clear h hfin hB
  obtain ⟨f, hf⟩ : ∃ f, f = see m x.puts := ⟨_, rfl⟩
  have HS : Hid (f = see m x.puts) := hf
  rw [← hf] at H
  clear hf
  go_enter Tryz.func89, Tryz.ntmps89
  go_wp2_with (go_at_call 95; refine (register_any S _ px tv 2 x f _ (H.out.alloc _) (by omega) (by omega)).mono ?_; rintro e w' ⟨rfl, rfl⟩)
  go_end0
  exact ⟨rfl, tv, (H.out.alloc _).congr rfl HS.out HF.out.symm, ((Fr.refl _ _).alloc _)⟩
theorem do_10n (S : Nat → Prop) (w : World) (px : Spot) (tv : Value) (x : Mo) (m : Int → Int) (a b c : Int) (hfin : x.fin = 0) (h : Eng S w px tv 2 x (see m x.puts)) (hB : ∀ k, w.heap.size ≤ k → S k) (hr : reg x a = 0) (h1 : 0 ≤ a) (h2 : a ≤ 3) :
    Calls Tryz.prog 89 #[.pointer (some ⟨px.b, px.o, none⟩), .agg #[.int .i64 10, .int .i64 a, .int .i64 b, .int .i64 c]] w fun e w' => Did S w px m x e w' := by
  have H : Hid (Eng S w px tv 2 x (see m x.puts)) := h
  have HF : Hid (stOf x = 2) := by show _ = _; simp [stOf, hfin]
  have hlt := h.lt
  have HB : Hid (∀ k, w.heap.size ≤ k → S k) := hB
  clear h hfin hB
  obtain ⟨f, hf⟩ : ∃ f, f = see m x.puts := ⟨_, rfl⟩
  have HS : Hid (f = see m x.puts) := hf
  rw [← hf] at H
  clear hf
  go_enter Tryz.func89, Tryz.ntmps89
  go_wp2_with (go_at_call 95; refine (register_any S _ px tv 2 x f _ (H.out.alloc _) (by omega) (by omega)).mono ?_; rintro e w' ⟨rfl, rfl⟩)
  go_end0
  exact ⟨rfl, tv, (H.out.alloc _).congr rfl HS.out HF.out.symm, ((Fr.refl _ _).alloc _)⟩
theorem do_10y (S : Nat → Prop) (w : World) (px : Spot) (tv : Value) (x : Mo) (m : Int → Int) (a b c : Int) (hfin : x.fin = 0) (h : Eng S w px tv 2 x (see m x.puts)) (hB : ∀ k, w.heap.size ≤ k → S k) (hr : ¬ reg x a = 0) (hpc : x.pc ≤ 1000) (h1 : 0 ≤ a) (h2 : a ≤ 3) (h3 : 0 ≤ b) (h4 : b + 1 ≤ x.pc) :
    Calls Tryz.prog 89 #[.pointer (some ⟨px.b, px.o, none⟩), .agg #[.int .i64 10, .int .i64 a, .int .i64 b, .int .i64 c]] w fun e w' => Did S w px m { x with pc := x.pc - b.toNat - 1 } e w' := by
  have H : Hid (Eng S w px tv 2 x (see m x.puts)) := h
  have HF : Hid (stOf { x with pc := x.pc - b.toNat - 1 } = 2) := by show _ = _; simp [stOf, hfin]
  have hlt := h.lt
  have HB : Hid (∀ k, w.heap.size ≤ k → S k) := hB
  clear h hfin hB
  obtain ⟨f, hf⟩ : ∃ f, f = see m x.puts := ⟨_, rfl⟩
  have HS : Hid (f = see m x.puts) := hf
  rw [← hf] at H
  clear hf
  have c1 := H.out.cPc
  have f1 := H.out.fPx (px.o + 1)
  obtain ⟨n, rfl⟩ : ∃ n : Nat, b = n := ⟨b.toNat, by omega⟩
  have hw : IntKind.i64.wrap ((n : Int) + 1) = (n : Int) + 1 := by rw [IntKind.wrap_i64]; omega
  have hw2 : IntKind.i64.wrap ((x.pc : Int) - ((n : Int) + 1)) = (x.pc : Int) - ((n : Int) + 1) := by rw [IntKind.wrap_i64]; omega
  have HP : Hid (((x.pc - (n : Int).toNat - 1 : Nat) : Int) = (x.pc : Int) - ((n : Int) + 1)) := by show _ = _; omega
  go_enter Tryz.func89, Tryz.ntmps89
  go_wp2_with (go_at_call 95; refine (register_any S _ px tv 2 x f _ (H.out.alloc _) (by omega) (by omega)).mono ?_; rintro e w' ⟨rfl, rfl⟩)
  go_region
  all_goals
    go_wp2
    go_end0
    refine ⟨rfl, tv, ?_, (((Fr.refl _ _).setCell (p := ⟨px.b, _, none⟩) (fun _ => H.out.inS) _).alloc _).drew⟩
    have := ((H.out.setPc (x.pc - (n : Int).toNat - 1)).alloc (.cells #[.int .i64 10, .int .i64 a, .int .i64 (n : Int), .int .i64 c] 95)).drew
    rw [HP.out] at this
    exact this.congr rfl HS.out HF.out.symm
theorem engCells_told (st : Int) (x : Mo) (f : Int → Int) (tv tv' : Value) (t : List Int) (hl : x.regs.length = 4) (hd : x.read.length = 16) : (engCells st x f tv).set 71 tv' = engCells st { x with told := t } f tv' := by
  rw [engCells, engCells, List.set_append_right _ _ (by simp [length_mapCells]; omega), List.set_append_right _ _ (by simp [length_mapCells, length_rdCells]; omega), List.set_append_right _ _ (by simp [length_mapCells, length_wrCells, length_rdCells]; omega)]
  simp [length_mapCells, length_wrCells, length_rdCells, hl, hd]
theorem Eng.tell {S : Nat → Prop} {W w2 : World} {px : Spot} {tv : Value} {st : Int} {x : Mo} {f : Int → Int} {r : Int} {g cap : Nat} (h : Eng S W px tv st x f) (hown : w2.ownsRow 0 3 1 (.slice (some ⟨g, 0, none⟩) (x.told.length + 1) cap) (x.told.length + 1) (x.told.map (Value.int .i64) ++ [.int .i64 r])) (hg : W.grownBy w2 tv.ownBlock) (hS : S g) :
    w2.cell? ⟨px.b, px.o + 71, none⟩ = some tv ∧ w2.frozen? ⟨px.b, px.o + 71, none⟩ = false ∧ Eng S (w2.setCell ⟨px.b, px.o + 71, none⟩ (.slice (some ⟨g, 0, none⟩) (x.told.length + 1) cap)) px (.slice (some ⟨g, 0, none⟩) (x.told.length + 1) cap) st { x with told := x.told ++ [r] } f := by
  have hF : Fr (fun k => tv.ownBlock = some k) W w2 := (Fr.refl _ W).grown hg (fun k hk _ => hk)
  have hpx : w2.heap[px.b]? = some (.cells (px.pre ++ engCells st x f tv ++ px.post).toArray px.ty (0, 0)) := hF.blk h.blk h.ne_t
  have hgp : (Value.slice (some ⟨g, 0, none⟩) (x.told.length + 1) cap).ownBlock ≠ some px.b := owns_ne hown hpx h.tyne
  have hl := h.rlen
  refine ⟨?_, blk_free hpx, h.inS, fun k hk => ?_, h.off, h.tyne, ?_, h.rlen, h.dlen, owns_set (by simpa using hown) hgp _ _⟩
  · refine blk_rangeAt hpx h.off 71 _ ?_
    have hd := h.dlen
    rw [engCells, ← List.append_assoc, ← List.append_assoc, List.getElem?_append_right (by simp [length_mapCells, length_wrCells, length_rdCells]; omega)]
    simp [length_mapCells, length_wrCells, length_rdCells, hl, hd]
  · injection hk with hk
    have hk : g = k := hk
    exact hk ▸ hS
  · rw [blk_set hpx, List.setIfInBounds_toArray, ← h.off, mid_set _ _ _ _ _ (by rw [engCells_len hl h.dlen]; omega), engCells_told _ _ _ _ _ _ hl h.dlen]
theorem do_11 (S : Nat → Prop) (w : World) (px : Spot) (tv : Value) (x : Mo) (m : Int → Int) (a b c : Int) (hfin : x.fin = 0) (h : Eng S w px tv 2 x (see m x.puts)) (hB : ∀ k, w.heap.size ≤ k → S k) (htl : x.told.length ≤ 1000) (h1 : 0 ≤ a) (h2 : a ≤ 3) :
    Calls Tryz.prog 89 #[.pointer (some ⟨px.b, px.o, none⟩), .agg #[.int .i64 11, .int .i64 a, .int .i64 b, .int .i64 c]] w fun e w' => Did S w px m { x with told := x.told ++ [reg x a] } e w' := by
  have H : Hid (Eng S w px tv 2 x (see m x.puts)) := h
  have HF : Hid (stOf { x with told := x.told ++ [reg x a] } = 2) := by show _ = _; simp [stOf, hfin]
  have hlt := h.lt
  have HB : Hid (∀ k, w.heap.size ≤ k → S k) := hB
  clear h hfin hB
  obtain ⟨f, hf⟩ : ∃ f, f = see m x.puts := ⟨_, rfl⟩
  have HS : Hid (f = see m x.puts) := hf
  rw [← hf] at H
  clear hf
  have c39 := H.out.cTold
  have f39 := H.out.fPx (px.o + 71)
  obtain ⟨i0, hi, hz0, hz1, hz2⟩ := info_parts Tryz.infoInt
  go_enter Tryz.func89, Tryz.ntmps89
  go_wp2_with (first | (go_at_call 95; refine (register_any S _ px tv 2 x f _ (H.out.alloc _) (by omega) (by omega)).mono ?_; rintro e w' ⟨rfl, rfl⟩) | (at_builtin; refine wpList_append_lies _ (by rfl) _ _ 55 (by rfl) 0 3 i0 _ 1 8 Tryz.underlying55 hi hz0 hz1 hz2 (by rfl) (by decide) _ _ _ (by rfl) ((H.out.alloc _).alloc _).told ⟨w.heap.size + 1, 0, none⟩ 1 1 [.int .i64 (reg x a)] (by rfl) (by rfl) ?_ ?_ (by decide) ?_ ?_ ?_ _ (by rfl) ?_))
  · exact World.news_of_block (new1E _ _ _)
  · intro u hu; simp at hu; subst hu; rfl
  · unfold maxLen; omega
  · omega
  · exact Nat.zero_le _
  · intro g1 cap1 w2 hown2 hgrow2 hat hlt2
    have HT : Hid (w2.cell? ⟨px.b, px.o + 71, none⟩ = some tv ∧ w2.frozen? ⟨px.b, px.o + 71, none⟩ = false ∧ Eng S (w2.setCell ⟨px.b, px.o + 71, none⟩ (.slice (some ⟨g1, 0, none⟩) (x.told.length + 1) cap1)) px (.slice (some ⟨g1, 0, none⟩) (x.told.length + 1) cap1) 2 { x with told := x.told ++ [reg x a] } f ∧ Fr S w w2) := by
      obtain ⟨k1, k2, k3⟩ := Eng.tell ((H.out.alloc (.cells #[.int .i64 11, .int .i64 a, .int .i64 b, .int .i64 c] 95)).alloc (.cells #[.int .i64 (reg x a)] 3)) hown2 hgrow2 (by rcases hat with h | h; exact H.out.tS _ h; exact HB.out _ (by omega))
      exact ⟨k1, k2, k3, (((Fr.refl _ _).alloc _).alloc _).grown hgrow2 (fun k hk _ => H.out.tS _ hk)⟩
    have k1 := HT.out.1
    have k2 := HT.out.2.1
    clear hown2 hgrow2 hat hlt2 c39 f39
    go_wp2
    go_end0
    exact ⟨rfl, _, HT.out.2.2.1.congr rfl HS.out HF.out.symm, HT.out.2.2.2.setCell (p := ⟨px.b, _, none⟩) (fun _ => H.out.inS) _⟩
end Go.Proofs.YtlbmcdoldnajoaaGreat
namespace Go.Proofs.YtlbmcdoldnajoaaGreat
open Go.RowKit
theorem stOf_bec {x : Mo} (hfin : x.fin = 0) (a v : Int) : (if v < 0 ∨ 9999 < v then (5 : Int) else 2) = stOf (bec x a v) := by
  unfold stOf bec
  by_cases h : v < 0 ∨ 9999 < v
  · rw [if_pos h, if_pos h]; simp
  · rw [if_neg h, if_neg h]; simp [setReg, hfin]
theorem becE_puts (x : Mo) (a v : Int) : (bec x a v).puts = x.puts := by unfold bec; split <;> rfl
theorem do_1 (S : Nat → Prop) (w : World) (px : Spot) (tv : Value) (x : Mo) (m : Int → Int) (a b c : Int) (hfin : x.fin = 0) (h : Eng S w px tv 2 x (see m x.puts)) (hB : ∀ k, w.heap.size ≤ k → S k) (h1 : 0 ≤ a) (h2 : a ≤ 3) :
    Calls Tryz.prog 89 #[.pointer (some ⟨px.b, px.o, none⟩), .agg #[.int .i64 1, .int .i64 a, .int .i64 b, .int .i64 c]] w fun e w' => Did S w px m (bec x a (numE ⟨1, a, b, c⟩ x (see m x.puts))) e w' := by
  have H : Hid (Eng S w px tv 2 x (see m x.puts)) := h
  have HF : Hid (x.fin = 0) := hfin
  have HB : Hid (∀ k, w.heap.size ≤ k → S k) := hB
  clear h hfin hB
  obtain ⟨nv, hnv⟩ : ∃ nv, nv = numE ⟨1, a, b, c⟩ x (see m x.puts) := ⟨_, rfl⟩
  have HN : Hid (nv = numE ⟨1, a, b, c⟩ x (see m x.puts)) := hnv
  rw [← hnv]
  clear hnv
  go_enter Tryz.func89, Tryz.ntmps89
  go_wp2_with (first | (go_at_call 98; refine (number_1 S _ px tv 2 x (see m x.puts) a b c (H.out.alloc _) h1 h2).mono ?_; rintro e W2 ⟨rfl, hW2, hF2⟩; rw [← HN.out]; have HW : Hid (Eng S W2 px tv 2 x (see m x.puts) ∧ Fr S w W2) := ⟨hW2, ((Fr.refl _ _).alloc _).trans hF2 (fun k _ e => e ▸ H.out.inS)⟩; have cb := (hF2.cell (b := w.heap.size) (o := 1) (by simp) (by have := H.out.lt; omega)); clear hW2 hF2) | (go_at_call 99; refine (become_any S _ px tv 2 x (see m x.puts) a nv HW.out.1 h1 h2).mono ?_; rintro e W3 ⟨rfl, hE, hb3⟩; have HE : Hid (Eng S W3 px tv (if nv < 0 ∨ 9999 < nv then 5 else 2) (bec x a nv) (see m x.puts) ∧ Fr S w W3) := ⟨hE, HW.out.2.trans hb3 (fun _ _ h => h)⟩; clear hE hb3))
  go_end0
  exact ⟨rfl, tv, HE.out.1.congr rfl (by rw [becE_puts]) (stOf_bec HF.out a nv), HE.out.2⟩
theorem do_2 (S : Nat → Prop) (w : World) (px : Spot) (tv : Value) (x : Mo) (m : Int → Int) (a b c : Int) (hfin : x.fin = 0) (h : Eng S w px tv 2 x (see m x.puts)) (hB : ∀ k, w.heap.size ≤ k → S k) (h1 : 0 ≤ a) (h2 : a ≤ 3) (h3 : 0 ≤ b) (h4 : b ≤ 15) :
    Calls Tryz.prog 89 #[.pointer (some ⟨px.b, px.o, none⟩), .agg #[.int .i64 2, .int .i64 a, .int .i64 b, .int .i64 c]] w fun e w' => Did S w px m (bec { x with read := mark x.puts x.read b } a (numE ⟨2, a, b, c⟩ x (see m x.puts))) e w' := by
  have H : Hid (Eng S w px tv 2 x (see m x.puts)) := h
  have HF : Hid (x.fin = 0) := hfin
  have HB : Hid (∀ k, w.heap.size ≤ k → S k) := hB
  clear h hfin hB
  obtain ⟨nv, hnv⟩ : ∃ nv, nv = numE ⟨2, a, b, c⟩ x (see m x.puts) := ⟨_, rfl⟩
  have HN : Hid (nv = numE ⟨2, a, b, c⟩ x (see m x.puts)) := hnv
  rw [← hnv]
  clear hnv
  go_enter Tryz.func89, Tryz.ntmps89
  go_wp2_with (first | (go_at_call 98; refine (number_2 S _ px tv 2 x (see m x.puts) a b c (H.out.alloc _) h1 h2 h3 h4).mono ?_; rintro e W2 ⟨rfl, hW2, hF2⟩; rw [← HN.out]; have HW : Hid (Eng S W2 px tv 2 { x with read := mark x.puts x.read b } (see m x.puts) ∧ Fr S w W2) := ⟨hW2, ((Fr.refl _ _).alloc _).trans hF2 (fun k _ e => e ▸ H.out.inS)⟩; have cb := (hF2.cell (b := w.heap.size) (o := 1) (by simp) (by have := H.out.lt; omega)); clear hW2 hF2) | (go_at_call 99; refine (become_any S _ px tv 2 { x with read := mark x.puts x.read b } (see m x.puts) a nv HW.out.1 h1 h2).mono ?_; rintro e W3 ⟨rfl, hE, hb3⟩; have HE : Hid (Eng S W3 px tv (if nv < 0 ∨ 9999 < nv then 5 else 2) (bec { x with read := mark x.puts x.read b } a nv) (see m x.puts) ∧ Fr S w W3) := ⟨hE, HW.out.2.trans hb3 (fun _ _ h => h)⟩; clear hE hb3))
  go_end0
  exact ⟨rfl, tv, HE.out.1.congr rfl (by rw [becE_puts]) (stOf_bec (x := { x with read := mark x.puts x.read b }) HF.out a nv), HE.out.2⟩
theorem do_5 (S : Nat → Prop) (w : World) (px : Spot) (tv : Value) (x : Mo) (m : Int → Int) (a b c : Int) (hfin : x.fin = 0) (h : Eng S w px tv 2 x (see m x.puts)) (hB : ∀ k, w.heap.size ≤ k → S k) (h1 : 0 ≤ a) (h2 : a ≤ 3) (h3 : 0 ≤ b) (h4 : b ≤ c) (h5 : c ≤ 15) (hs : ∀ k, see m x.puts k ≤ 9999) :
    Calls Tryz.prog 89 #[.pointer (some ⟨px.b, px.o, none⟩), .agg #[.int .i64 5, .int .i64 a, .int .i64 b, .int .i64 c]] w fun e w' => Did S w px m (bec { x with read := markK x.puts x.read b (c - b + 1).toNat } a (numE ⟨5, a, b, c⟩ x (see m x.puts))) e w' := by
  have H : Hid (Eng S w px tv 2 x (see m x.puts)) := h
  have HF : Hid (x.fin = 0) := hfin
  have HB : Hid (∀ k, w.heap.size ≤ k → S k) := hB
  clear h hfin hB
  have HM : Hid (∀ k, see m x.puts k ≤ 9999) := hs
  clear hs
  obtain ⟨nv, hnv⟩ : ∃ nv, nv = numE ⟨5, a, b, c⟩ x (see m x.puts) := ⟨_, rfl⟩
  have HN : Hid (nv = numE ⟨5, a, b, c⟩ x (see m x.puts)) := hnv
  rw [← hnv]
  clear hnv
  go_enter Tryz.func89, Tryz.ntmps89
  go_wp2_with (first | (go_at_call 98; refine (number_5 S _ px tv 2 x (see m x.puts) a b c (H.out.alloc _) h1 h2 h3 h4 h5 HM.out).mono ?_; rintro e W2 ⟨rfl, hW2, hF2⟩; rw [← HN.out]; have HW : Hid (Eng S W2 px tv 2 { x with read := markK x.puts x.read b (c - b + 1).toNat } (see m x.puts) ∧ Fr S w W2) := ⟨hW2, ((Fr.refl _ _).alloc _).trans hF2 (fun k _ e => e ▸ H.out.inS)⟩; have cb := (hF2.cell (b := w.heap.size) (o := 1) (by simp) (by have := H.out.lt; omega)); clear hW2 hF2) | (go_at_call 99; refine (become_any S _ px tv 2 { x with read := markK x.puts x.read b (c - b + 1).toNat } (see m x.puts) a nv HW.out.1 h1 h2).mono ?_; rintro e W3 ⟨rfl, hE, hb3⟩; have HE : Hid (Eng S W3 px tv (if nv < 0 ∨ 9999 < nv then 5 else 2) (bec { x with read := markK x.puts x.read b (c - b + 1).toNat } a nv) (see m x.puts) ∧ Fr S w W3) := ⟨hE, HW.out.2.trans hb3 (fun _ _ h => h)⟩; clear hE hb3))
  go_end0
  exact ⟨rfl, tv, HE.out.1.congr rfl (by rw [becE_puts]) (stOf_bec (x := { x with read := markK x.puts x.read b (c - b + 1).toNat }) HF.out a nv), HE.out.2⟩
theorem do_6 (S : Nat → Prop) (w : World) (px : Spot) (tv : Value) (x : Mo) (m : Int → Int) (a b c : Int) (hfin : x.fin = 0) (h : Eng S w px tv 2 x (see m x.puts)) (hB : ∀ k, w.heap.size ≤ k → S k) (h1 : 0 ≤ a) (h2 : a ≤ 3) (h3 : 0 ≤ b) (h4 : b ≤ c) (h5 : c ≤ 15) :
    Calls Tryz.prog 89 #[.pointer (some ⟨px.b, px.o, none⟩), .agg #[.int .i64 6, .int .i64 a, .int .i64 b, .int .i64 c]] w fun e w' => Did S w px m (bec { x with read := markK x.puts x.read b (c - b + 1).toNat } a (numE ⟨6, a, b, c⟩ x (see m x.puts))) e w' := by
  have H : Hid (Eng S w px tv 2 x (see m x.puts)) := h
  have HF : Hid (x.fin = 0) := hfin
  have HB : Hid (∀ k, w.heap.size ≤ k → S k) := hB
  clear h hfin hB
  obtain ⟨nv, hnv⟩ : ∃ nv, nv = numE ⟨6, a, b, c⟩ x (see m x.puts) := ⟨_, rfl⟩
  have HN : Hid (nv = numE ⟨6, a, b, c⟩ x (see m x.puts)) := hnv
  rw [← hnv]
  clear hnv
  go_enter Tryz.func89, Tryz.ntmps89
  go_wp2_with (first | (go_at_call 98; refine (number_6 S _ px tv 2 x (see m x.puts) a b c (H.out.alloc _) h1 h2 h3 h4 h5).mono ?_; rintro e W2 ⟨rfl, hW2, hF2⟩; rw [← HN.out]; have HW : Hid (Eng S W2 px tv 2 { x with read := markK x.puts x.read b (c - b + 1).toNat } (see m x.puts) ∧ Fr S w W2) := ⟨hW2, ((Fr.refl _ _).alloc _).trans hF2 (fun k _ e => e ▸ H.out.inS)⟩; have cb := (hF2.cell (b := w.heap.size) (o := 1) (by simp) (by have := H.out.lt; omega)); clear hW2 hF2) | (go_at_call 99; refine (become_any S _ px tv 2 { x with read := markK x.puts x.read b (c - b + 1).toNat } (see m x.puts) a nv HW.out.1 h1 h2).mono ?_; rintro e W3 ⟨rfl, hE, hb3⟩; have HE : Hid (Eng S W3 px tv (if nv < 0 ∨ 9999 < nv then 5 else 2) (bec { x with read := markK x.puts x.read b (c - b + 1).toNat } a nv) (see m x.puts) ∧ Fr S w W3) := ⟨hE, HW.out.2.trans hb3 (fun _ _ h => h)⟩; clear hE hb3))
  go_end0
  exact ⟨rfl, tv, HE.out.1.congr rfl (by rw [becE_puts]) (stOf_bec (x := { x with read := markK x.puts x.read b (c - b + 1).toNat }) HF.out a nv), HE.out.2⟩
theorem do_7 (S : Nat → Prop) (w : World) (px : Spot) (tv : Value) (x : Mo) (m : Int → Int) (a b c : Int) (hfin : x.fin = 0) (h : Eng S w px tv 2 x (see m x.puts)) (hB : ∀ k, w.heap.size ≤ k → S k) (h1 : 0 ≤ a) (h2 : a ≤ 3) (h3 : 0 ≤ b) (h4 : b ≤ 3) {N : Nat} (hok : MoOk N x) :
    Calls Tryz.prog 89 #[.pointer (some ⟨px.b, px.o, none⟩), .agg #[.int .i64 7, .int .i64 a, .int .i64 b, .int .i64 c]] w fun e w' => Did S w px m (bec x a (numE ⟨7, a, b, c⟩ x (see m x.puts))) e w' := by
  have H : Hid (Eng S w px tv 2 x (see m x.puts)) := h
  have HF : Hid (x.fin = 0) := hfin
  have HB : Hid (∀ k, w.heap.size ≤ k → S k) := hB
  clear h hfin hB
  have HK : Hid (MoOk N x) := hok
  clear hok
  obtain ⟨nv, hnv⟩ : ∃ nv, nv = numE ⟨7, a, b, c⟩ x (see m x.puts) := ⟨_, rfl⟩
  have HN : Hid (nv = numE ⟨7, a, b, c⟩ x (see m x.puts)) := hnv
  rw [← hnv]
  clear hnv
  go_enter Tryz.func89, Tryz.ntmps89
  go_wp2_with (first | (go_at_call 98; refine (number_7 S _ px tv 2 x (see m x.puts) a b c (H.out.alloc _) h1 h2 h3 h4 HK.out).mono ?_; rintro e W2 ⟨rfl, hW2, hF2⟩; rw [← HN.out]; have HW : Hid (Eng S W2 px tv 2 x (see m x.puts) ∧ Fr S w W2) := ⟨hW2, ((Fr.refl _ _).alloc _).trans hF2 (fun k _ e => e ▸ H.out.inS)⟩; have cb := (hF2.cell (b := w.heap.size) (o := 1) (by simp) (by have := H.out.lt; omega)); clear hW2 hF2) | (go_at_call 99; refine (become_any S _ px tv 2 x (see m x.puts) a nv HW.out.1 h1 h2).mono ?_; rintro e W3 ⟨rfl, hE, hb3⟩; have HE : Hid (Eng S W3 px tv (if nv < 0 ∨ 9999 < nv then 5 else 2) (bec x a nv) (see m x.puts) ∧ Fr S w W3) := ⟨hE, HW.out.2.trans hb3 (fun _ _ h => h)⟩; clear hE hb3))
  go_end0
  exact ⟨rfl, tv, HE.out.1.congr rfl (by rw [becE_puts]) (stOf_bec HF.out a nv), HE.out.2⟩
theorem do_8 (S : Nat → Prop) (w : World) (px : Spot) (tv : Value) (x : Mo) (m : Int → Int) (a b c : Int) (hfin : x.fin = 0) (h : Eng S w px tv 2 x (see m x.puts)) (hB : ∀ k, w.heap.size ≤ k → S k) (h1 : 0 ≤ a) (h2 : a ≤ 3) (h3 : 0 ≤ b) (h4 : b ≤ 3) {N : Nat} (hok : MoOk N x) :
    Calls Tryz.prog 89 #[.pointer (some ⟨px.b, px.o, none⟩), .agg #[.int .i64 8, .int .i64 a, .int .i64 b, .int .i64 c]] w fun e w' => Did S w px m (bec x a (numE ⟨8, a, b, c⟩ x (see m x.puts))) e w' := by
  have H : Hid (Eng S w px tv 2 x (see m x.puts)) := h
  have HF : Hid (x.fin = 0) := hfin
  have HB : Hid (∀ k, w.heap.size ≤ k → S k) := hB
  clear h hfin hB
  have HK : Hid (MoOk N x) := hok
  clear hok
  obtain ⟨nv, hnv⟩ : ∃ nv, nv = numE ⟨8, a, b, c⟩ x (see m x.puts) := ⟨_, rfl⟩
  have HN : Hid (nv = numE ⟨8, a, b, c⟩ x (see m x.puts)) := hnv
  rw [← hnv]
  clear hnv
  go_enter Tryz.func89, Tryz.ntmps89
  go_wp2_with (first | (go_at_call 98; refine (number_8 S _ px tv 2 x (see m x.puts) a b c (H.out.alloc _) h1 h2 h3 h4 HK.out).mono ?_; rintro e W2 ⟨rfl, hW2, hF2⟩; rw [← HN.out]; have HW : Hid (Eng S W2 px tv 2 x (see m x.puts) ∧ Fr S w W2) := ⟨hW2, ((Fr.refl _ _).alloc _).trans hF2 (fun k _ e => e ▸ H.out.inS)⟩; have cb := (hF2.cell (b := w.heap.size) (o := 1) (by simp) (by have := H.out.lt; omega)); clear hW2 hF2) | (go_at_call 99; refine (become_any S _ px tv 2 x (see m x.puts) a nv HW.out.1 h1 h2).mono ?_; rintro e W3 ⟨rfl, hE, hb3⟩; have HE : Hid (Eng S W3 px tv (if nv < 0 ∨ 9999 < nv then 5 else 2) (bec x a nv) (see m x.puts) ∧ Fr S w W3) := ⟨hE, HW.out.2.trans hb3 (fun _ _ h => h)⟩; clear hE hb3))
  go_end0
  exact ⟨rfl, tv, HE.out.1.congr rfl (by rw [becE_puts]) (stOf_bec HF.out a nv), HE.out.2⟩
theorem Did.congr {S : Nat → Prop} {w : World} {px : Spot} {m : Int → Int} {y y' : Mo} {e : Ending} {w' : World} (h : Did S w px m y e w') (he : y = y') : Did S w px m y' e w' := he ▸ h
theorem bec_fine {x : Mo} {a v : Int} (h0 : 0 ≤ v) (h1 : v ≤ 9999) : bec x a v = setReg x a v := by rw [bec, if_neg (by omega)]
def agS (s : St) : Value := .agg #[.int .i64 s.op, .int .i64 s.a, .int .i64 s.b, .int .i64 s.c]
theorem do_any (S : Nat → Prop) (w : World) (px : Spot) (tv : Value) (x : Mo) (m : Int → Int) (s : St) (N : Nat) (hN : N ≤ 32) (hok : MoOk N x) (hpc : x.pc < N) (hs : stB s x.pc N = true) (hm : ∀ k, m k ≤ 9999) (hfin : x.fin = 0) (hd : x.done ≤ 1000)
    (h : Eng S w px tv 2 (nxt x) (see m x.puts)) (hB : ∀ k, w.heap.size ≤ k → S k) :
    Calls Tryz.prog 89 #[.pointer (some ⟨px.b, px.o, none⟩), agS s] w fun e w' => Did S w px m (stp s m x) e w' := by
  have hok1 : MoOk N (nxt x) := ⟨hok.len, hok.regs, hok.puts, hpc, Nat.le_succ_of_le hok.told⟩
  have hsee := see_le hok hm
  have hr := reg_le hok1
  have htl : (nxt x).told.length ≤ 1000 := Nat.le_trans hok.told hd
  have hf1 : (nxt x).fin = 0 := hfin
  have hp1 : (nxt x).pc = x.pc + 1 := rfl
  obtain ⟨op, a, b, c⟩ := s
  unfold stB stepB at hs
  simp only at hs
  unfold agS
  simp only
  split at hs
  · rename_i e; subst e
    simp [regB, inB] at hs
    refine (do_1 S w px tv (nxt x) m a b c hf1 h hB (by omega) (by omega)).mono fun e w' hd => hd.congr ?_
    have : numE ⟨1, a, b, c⟩ (nxt x) (see m (nxt x).puts) = b := rfl
    rw [this, bec_fine (by omega) (by omega)]
    simp [stp, nxt]
  split at hs
  · rename_i e1 e; subst e
    simp [regB, keyB] at hs
    refine (do_2 S w px tv (nxt x) m a b c hf1 h hB (by omega) (by omega) (by omega) (by omega)).mono fun e w' hd => ?_
    have : numE ⟨2, a, b, c⟩ (nxt x) (see m (nxt x).puts) = pos (see m x.puts b) := rfl
    have hp : 0 ≤ pos (see m x.puts b) ∧ pos (see m x.puts b) ≤ 9999 := by have := hsee b; unfold pos; split <;> omega
    rw [this, bec_fine hp.1 hp.2] at hd
    have e2 : stp ⟨2, a, b, c⟩ m x = setReg { nxt x with read := mark x.puts x.read b } a (pos (see m x.puts b)) := by
      have : (if see m x.puts b < 0 then 0 else see m x.puts b) = pos (see m x.puts b) := by unfold pos; split <;> split <;> omega
      simp [stp, nxt, this]
    rw [e2]
    exact hd
  split at hs
  · rename_i e1 e2 e; subst e
    simp [regB, keyB] at hs
    refine (do_3 S w px tv (nxt x) m a b c hf1 h hB (hr b).1 (by omega) (by omega) (by omega) (by omega)).mono fun e w' hd => hd.congr ?_
    simp [stp, nxt]
  split at hs
  · rename_i e1 e2 e3 e; subst e
    simp [keyB] at hs
    refine (do_4 S w px tv (nxt x) m a b c hf1 h hB (by omega) (by omega)).mono fun e w' hd => hd.congr ?_
    simp [stp, nxt]
  split at hs
  · rename_i e1 e2 e3 e4 e
    simp [regB, keyB] at hs
    rcases e with rfl | rfl
    · refine (do_5 S w px tv (nxt x) m a b c hf1 h hB (by omega) (by omega) (by omega) (by omega) (by omega) hsee).mono fun e w' hd => ?_
      have : numE ⟨5, a, b, c⟩ (nxt x) (see m (nxt x).puts) = sumK (see m x.puts) b (c - b + 1).toNat := rfl
      rw [this] at hd
      have e2 : stp ⟨5, a, b, c⟩ m x = bec { nxt x with read := markK x.puts x.read b (c - b + 1).toNat } a (sumK (see m x.puts) b (c - b + 1).toNat) := by simp [stp, nxt]
      rw [e2]
      exact hd
    · refine (do_6 S w px tv (nxt x) m a b c hf1 h hB (by omega) (by omega) (by omega) (by omega) (by omega)).mono fun e w' hd => ?_
      have : numE ⟨6, a, b, c⟩ (nxt x) (see m (nxt x).puts) = cntK (see m x.puts) b (c - b + 1).toNat := rfl
      rw [this] at hd
      have e2 : stp ⟨6, a, b, c⟩ m x = bec { nxt x with read := markK x.puts x.read b (c - b + 1).toNat } a (cntK (see m x.puts) b (c - b + 1).toNat) := by simp [stp, nxt]
      rw [e2]
      exact hd
  split at hs
  · rename_i e1 e2 e3 e4 e5 e
    simp [regB] at hs
    rcases e with rfl | rfl
    · refine (do_7 S w px tv (nxt x) m a b c hf1 h hB (by omega) (by omega) (by omega) (by omega) hok1).mono fun e w' hd => hd.congr ?_
      have : numE ⟨7, a, b, c⟩ (nxt x) (see m (nxt x).puts) = reg (nxt x) a + reg (nxt x) b := rfl
      rw [this]
      simp [stp, nxt]
    · refine (do_8 S w px tv (nxt x) m a b c hf1 h hB (by omega) (by omega) (by omega) (by omega) hok1).mono fun e w' hd => hd.congr ?_
      have : numE ⟨8, a, b, c⟩ (nxt x) (see m (nxt x).puts) = reg (nxt x) a - reg (nxt x) b := rfl
      rw [this]
      simp [stp, nxt]
  split at hs
  · rename_i e1 e2 e3 e4 e5 e7 e; subst e
    simp [regB, inB] at hs
    by_cases h0 : reg (nxt x) a = 0
    · refine (do_9y S w px tv (nxt x) m a b c hf1 h hB h0 (by omega) (by omega) (by omega) (by omega) (by omega)).mono fun e w' hd => hd.congr ?_
      have h0' : reg { x with done := x.done + 1, pc := x.pc + 1 } a = 0 := h0
      simp [stp, nxt, h0']
    · refine (do_9n S w px tv (nxt x) m a b c hf1 h hB h0 (by omega) (by omega)).mono fun e w' hd => hd.congr ?_
      have h0' : ¬ reg { x with done := x.done + 1, pc := x.pc + 1 } a = 0 := h0
      simp [stp, nxt, h0']
  split at hs
  · rename_i e1 e2 e3 e4 e5 e7 e9 e; subst e
    simp [regB, inB] at hs
    by_cases h0 : reg (nxt x) a = 0
    · refine (do_10n S w px tv (nxt x) m a b c hf1 h hB h0 (by omega) (by omega)).mono fun e w' hd => hd.congr ?_
      have h0' : reg { x with done := x.done + 1, pc := x.pc + 1 } a = 0 := h0
      simp [stp, nxt, h0']
    · refine (do_10y S w px tv (nxt x) m a b c hf1 h hB h0 (by omega) (by omega) (by omega) (by omega) (by omega)).mono fun e w' hd => hd.congr ?_
      have h1 := (hr a).1
      have h0' : 0 < reg { x with done := x.done + 1, pc := x.pc + 1 } a := by have : reg (nxt x) a ≠ 0 := h0; show 0 < reg (nxt x) a; omega
      simp [stp, nxt, h0']
  split at hs
  · rename_i e1 e2 e3 e4 e5 e7 e9 e10 e; subst e
    simp [regB] at hs
    refine (do_11 S w px tv (nxt x) m a b c hf1 h hB htl (by omega) (by omega)).mono fun e w' hd => hd.congr ?_
    simp [stp, nxt]
  split at hs
  · rename_i e1 e2 e3 e4 e5 e7 e9 e10 e11 e; subst e
    refine (do_12 S w px tv (nxt x) m a b c h hB).mono fun e w' hd => hd.congr ?_
    simp [stp, nxt]
  · cases hs
end Go.Proofs.YtlbmcdoldnajoaaGreat
