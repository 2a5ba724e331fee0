/- Eng1, Eng0, EngF, EngR, EngN, EngD, EngE, EngX, EngP, EngB, EngV -/
import Derived.Test.YtobkefggfghhfaaRunDef
import Derived.Deep.MidRow
import Derived.Laws.CopyOwn
import Derived.Test.YtobkefggfghhfaaOk
import Derived.Deep.QuietTactic
import Derived.BigQuiet
import Derived.Deep.RegionWith
import Derived.Test.YtobkefggfghhfaaPlay
import Derived.Test.YtobkefggfghhfaaAfter
import Derived.Test.YtobkefggfghhfaaRefRun
import Derived.Laws.AppendOwnNone

/- The program's own map and run in memory: small methods. -/
namespace Go.Proofs.Ytobkefggfghhfaa
open Go.RowKit

def pos (v : Int) : Int := if 0 ≤ v then v else 0

/-- the 32 cells of a store.Map -/
def mapCells (f : Int → Int) : List Value := (List.range 16).map (fun k : Nat => Value.bool (decide (0 ≤ f k))) ++ (List.range 16).map (fun k : Nat => Value.int .i64 (pos (f k)))

theorem length_mapCells (f : Int → Int) : (mapCells f).length = 32 := by simp [mapCells]
theorem mapCells_has (f : Int → Int) {k : Nat} (h : k < 16) : (mapCells f)[k]? = some (.bool (decide (0 ≤ f k))) := by
  rw [mapCells, List.getElem?_append_left (by simpa using h)]
  simp [h]
theorem mapCells_val (f : Int → Int) {k : Nat} (h : k < 16) : (mapCells f)[16 + k]? = some (.int .i64 (pos (f k))) := by
  rw [mapCells, List.getElem?_append_right (by simp)]
  simp [h]

def MapAt (w : World) (b o : Nat) (f : Int → Int) : Prop := w.rangeAt b o (mapCells f)

theorem MapAt.has {w : World} {b o : Nat} {f : Int → Int} (h : MapAt w b o f) {k : Nat} (hk : k < 16) : w.cell? ⟨b, o + k, none⟩ = some (.bool (decide (0 ≤ f k))) := h k _ (mapCells_has f hk)
theorem MapAt.val {w : World} {b o : Nat} {f : Int → Int} (h : MapAt w b o f) {k : Nat} (hk : k < 16) : w.cell? ⟨b, o + 16 + k, none⟩ = some (.int .i64 (pos (f k))) := by rw [Nat.add_assoc]; exact h (16 + k) _ (mapCells_val f hk)

set_option maxRecDepth 100000 in
set_option maxHeartbeats 400000 in
theorem value_any (w : World) (b o : Nat) (f : Int → Int) (k : Int) (h : MapAt w b o f) (h0 : 0 ≤ k) (h1 : k ≤ 15) :
    Calls Try.prog 67 #[.pointer (some ⟨b, o, none⟩), .int .i64 k] w fun e w' => e = .returned (.int .i64 (pos (f k))) ∧ w' = w := by
  obtain ⟨n, rfl⟩ : ∃ n : Nat, k = n := ⟨k.toNat, by omega⟩
  have c := h.val (k := n) (by omega)
  clear h
  go_enter Try.func67, Try.ntmps67
  go_wp2
  go_ret
  exact ⟨rfl, rfl⟩


set_option maxRecDepth 100000 in
set_option maxHeartbeats 400000 in
theorem put_any (w : World) (b o : Nat) (f : Int → Int) (k : Int) (v : Int) (h : MapAt w b o f) (hf : ∀ i, w.frozen? ⟨b, i, none⟩ = false) (h0 : 0 ≤ k) (h1 : k ≤ 15) :
    Calls Try.prog 51 #[.pointer (some ⟨b, o, none⟩), .int .i64 k, .int .i64 v] w fun e w' => e = .returned (.tuple #[]) ∧ w' = (w.setCell ⟨b, o + k.toNat, none⟩ (.bool true)).setCell ⟨b, o + 16 + k.toNat, none⟩ (.int .i64 v) := by
  obtain ⟨n, rfl⟩ : ∃ n : Nat, k = n := ⟨k.toNat, by omega⟩
  have c0 := h.has (k := n) (by omega)
  have c1 := h.val (k := n) (by omega)
  have f0 := hf (o + n)
  have f1 := hf (o + 16 + n)
  have ne : ¬ o + 16 + n = o + n := by omega
  have ne' : ¬ o + n = o + 16 + n := by omega
  clear h hf
  go_enter Try.func51, Try.ntmps51
  go_wp2
  go_end0
  exact ⟨rfl, by simp⟩

set_option maxRecDepth 100000 in
set_option maxHeartbeats 400000 in
theorem del_any (w : World) (b o : Nat) (f : Int → Int) (k : Int) (h : MapAt w b o f) (hf : ∀ i, w.frozen? ⟨b, i, none⟩ = false) (h0 : 0 ≤ k) (h1 : k ≤ 15) :
    Calls Try.prog 64 #[.pointer (some ⟨b, o, none⟩), .int .i64 k] w fun e w' => e = .returned (.tuple #[]) ∧ w' = (w.setCell ⟨b, o + k.toNat, none⟩ (.bool false)).setCell ⟨b, o + 16 + k.toNat, none⟩ (.int .i64 0) := by
  obtain ⟨n, rfl⟩ : ∃ n : Nat, k = n := ⟨k.toNat, by omega⟩
  have c0 := h.has (k := n) (by omega)
  have c1 := h.val (k := n) (by omega)
  have f0 := hf (o + n)
  have f1 := hf (o + 16 + n)
  have ne : ¬ o + 16 + n = o + n := by omega
  have ne' : ¬ o + n = o + 16 + n := by omega
  clear h hf
  go_enter Try.func64, Try.ntmps64
  go_wp2
  go_end0
  exact ⟨rfl, by simp⟩

/-- the sum over the keys from b to c, of the first t keys -/
def sumR (f : Int → Int) (b c : Int) : Nat → Int
  | 0 => 0
  | t + 1 => sumR f b c t + if b ≤ t ∧ (t : Int) ≤ c then pos (f t) else 0
def cntR (f : Int → Int) (b c : Int) : Nat → Int
  | 0 => 0
  | t + 1 => cntR f b c t + if b ≤ t ∧ (t : Int) ≤ c ∧ 0 ≤ f t then 1 else 0

theorem sumR_bd {f : Int → Int} (hf : ∀ k, f k ≤ 9999) (b c : Int) : ∀ t, 0 ≤ sumR f b c t ∧ sumR f b c t ≤ 9999 * t
  | 0 => by simp [sumR]
  | t + 1 => by
    have ih := sumR_bd hf b c t
    have := hf t
    unfold sumR pos
    split <;> (try split) <;> constructor <;> omega
theorem cntR_bd (f : Int → Int) (b c : Int) : ∀ t, 0 ≤ cntR f b c t ∧ cntR f b c t ≤ t
  | 0 => by simp [cntR]
  | t + 1 => by
    have ih := cntR_bd f b c t
    unfold cntR
    split <;> constructor <;> omega

theorem sumR_K (f : Int → Int) {b c : Int} (hb : 0 ≤ b) (hc : b ≤ c) : ∀ t : Nat, sumR f b c t = sumK f b (min (t : Int) (c + 1) - b).toNat
  | 0 => by rw [show (min ((0 : Nat) : Int) (c + 1) - b).toNat = 0 by omega]; rfl
  | t + 1 => by
    rw [sumR, sumR_K f hb hc t]
    by_cases h : b ≤ t ∧ (t : Int) ≤ c
    · rw [if_pos h, show (min ((t + 1 : Nat) : Int) (c + 1) - b).toNat = (min (t : Int) (c + 1) - b).toNat + 1 by omega, sumK, show b + ((min (t : Int) (c + 1) - b).toNat : Int) = t by omega]
      rfl
    · rw [if_neg h, show (min ((t + 1 : Nat) : Int) (c + 1) - b).toNat = (min (t : Int) (c + 1) - b).toNat by omega]; omega
theorem cntR_K (f : Int → Int) {b c : Int} (hb : 0 ≤ b) (hc : b ≤ c) : ∀ t : Nat, cntR f b c t = cntK f b (min (t : Int) (c + 1) - b).toNat
  | 0 => by rw [show (min ((0 : Nat) : Int) (c + 1) - b).toNat = 0 by omega]; rfl
  | t + 1 => by
    rw [cntR, cntR_K f hb hc t]
    by_cases h : b ≤ t ∧ (t : Int) ≤ c
    · rw [show (min ((t + 1 : Nat) : Int) (c + 1) - b).toNat = (min (t : Int) (c + 1) - b).toNat + 1 by omega, cntK, show b + ((min (t : Int) (c + 1) - b).toNat : Int) = t by omega]
      by_cases h2 : 0 ≤ f t
      · rw [if_pos ⟨h.1, h.2, h2⟩, if_pos h2]
      · rw [if_neg (fun k => h2 k.2.2), if_neg h2]
    · rw [if_neg (fun k => h ⟨k.1, k.2.1⟩), show (min ((t + 1 : Nat) : Int) (c + 1) - b).toNat = (min (t : Int) (c + 1) - b).toNat by omega]; omega
theorem sumR_all (f : Int → Int) {b c : Int} (hb : 0 ≤ b) (hc : b ≤ c) (hc' : c ≤ 15) : sumR f b c 16 = sumK f b (c - b + 1).toNat := by
  rw [sumR_K f hb hc, show (min ((16 : Nat) : Int) (c + 1) - b).toNat = (c - b + 1).toNat by omega]
theorem cntR_all (f : Int → Int) {b c : Int} (hb : 0 ≤ b) (hc : b ≤ c) (hc' : c ≤ 15) : cntR f b c 16 = cntK f b (c - b + 1).toNat := by
  rw [cntR_K f hb hc, show (min ((16 : Nat) : Int) (c + 1) - b).toNat = (c - b + 1).toNat by omega]

set_option maxRecDepth 100000 in
set_option maxHeartbeats 400000 in
theorem sum_any (w : World) (b o : Nat) (f : Int → Int) (p q : Int) (h : MapAt w b o f) (hf : ∀ k, f k ≤ 9999) (h0 : 0 ≤ p) (h1 : p ≤ q) (h2 : q ≤ 15) :
    Calls Try.prog 68 #[.pointer (some ⟨b, o, none⟩), .int .i64 p, .int .i64 q] w fun e w' => e = .returned (.int .i64 (sumK f p (q - p + 1).toNat)) ∧ w' = w := by
  rw [← sumR_all f h0 h1 h2]
  have HM : Hid (MapAt w b o f) := h
  have HF : Hid (∀ k, f k ≤ 9999) := hf
  clear h hf
  go_enter Try.func68, Try.ntmps68
  go_wp2
  go_loop [7, 8] (fun s i => ∃ j : Nat, j ≤ 16 ∧ i = .int .i64 j ∧ s = .int .i64 (sumR f p q j)) (fun _ i => 16 - (intOf i).toNat)
  case atStart => exact ⟨0, Nat.zero_le _, rfl, rfl⟩
  case round =>
    obtain ⟨j, hj, rfl, rfl⟩ := hrel
    by_cases hlt : j < 16
    · have c := HM.out.val (k := j) hlt
      have hb := sumR_bd HF.out p q j
      have hv : pos (f j) ≤ 9999 ∧ 0 ≤ pos (f j) := by have := HF.out j; unfold pos; split <;> omega
      have hst : sumR f p q (j + 1) = sumR f p q j + if p ≤ j ∧ (j : Int) ≤ q then pos (f j) else 0 := rfl
      have HSt : Hid (sumR f p q (j + 1) = sumR f p q j + if p ≤ j ∧ (j : Int) ≤ q then pos (f j) else 0) := hst
      clear hst
      generalize sumR f p q j = s at *
      generalize pos (f j) = v at *
      have hj' : (j : Int) < 16 := by omega
      have hw : IntKind.i64.wrap (s + v) = s + v := by rw [IntKind.wrap_i64]; omega
      by_cases k1 : p ≤ (j : Int)
      · by_cases k2 : (j : Int) ≤ q
        · go_wp2
          go_round
          case rel => exact ⟨j + 1, by omega, by go_num, by rw [HSt.out, if_pos ⟨k1, k2⟩]⟩
          case measure => simp [intOf]; omega
        · go_wp2
          go_round
          case rel => exact ⟨j + 1, by omega, by go_num, by rw [HSt.out, if_neg (fun h => k2 h.2), Int.add_zero]⟩
          case measure => simp [intOf]; omega
      · go_wp2
        go_round
        case rel => exact ⟨j + 1, by omega, by go_num, by rw [HSt.out, if_neg (fun h => k1 h.1), Int.add_zero]⟩
        case measure => simp [intOf]; omega
    · have hj' : ¬ ((j : Int) < 16) := by omega
      obtain rfl : j = 16 := by omega
      go_wp2
      go_ret
      exact ⟨rfl, rfl⟩

set_option maxRecDepth 100000 in
set_option maxHeartbeats 400000 in
theorem count_any (w : World) (b o : Nat) (f : Int → Int) (p q : Int) (h : MapAt w b o f) (h0 : 0 ≤ p) (h1 : p ≤ q) (h2 : q ≤ 15) :
    Calls Try.prog 69 #[.pointer (some ⟨b, o, none⟩), .int .i64 p, .int .i64 q] w fun e w' => e = .returned (.int .i64 (cntK f p (q - p + 1).toNat)) ∧ w' = w := by
  rw [← cntR_all f h0 h1 h2]
  have HM : Hid (MapAt w b o f) := h
  clear h
  go_enter Try.func69, Try.ntmps69
  go_wp2
  go_loop [7, 8] (fun s i => ∃ j : Nat, j ≤ 16 ∧ i = .int .i64 j ∧ s = .int .i64 (cntR f p q j)) (fun _ i => 16 - (intOf i).toNat)
  case atStart => exact ⟨0, Nat.zero_le _, rfl, rfl⟩
  case round =>
    obtain ⟨j, hj, rfl, rfl⟩ := hrel
    by_cases hlt : j < 16
    · have c := HM.out.has (k := j) hlt
      have hb := cntR_bd f p q j
      have hst : cntR f p q (j + 1) = cntR f p q j + if p ≤ j ∧ (j : Int) ≤ q ∧ 0 ≤ f j then 1 else 0 := rfl
      have HSt : Hid (cntR f p q (j + 1) = cntR f p q j + if p ≤ j ∧ (j : Int) ≤ q ∧ 0 ≤ f j then 1 else 0) := hst
      clear hst
      generalize cntR f p q j = s at *
      have hj' : (j : Int) < 16 := by omega
      have hw : IntKind.i64.wrap (s + 1) = s + 1 := by rw [IntKind.wrap_i64]; omega
      by_cases k1 : p ≤ (j : Int)
      · by_cases k2 : (j : Int) ≤ q
        · by_cases k3 : 0 ≤ f j
          · rw [decide_eq_true k3] at c
            go_wp2
            go_round
            case rel => exact ⟨j + 1, by omega, by go_num, by rw [HSt.out, if_pos ⟨k1, k2, k3⟩]⟩
            case measure => simp [intOf]; omega
          · rw [decide_eq_false k3] at c
            go_wp2
            go_round
            case rel => exact ⟨j + 1, by omega, by go_num, by rw [HSt.out, if_neg (fun h => k3 h.2.2), Int.add_zero]⟩
            case measure => simp [intOf]; omega
        · go_wp2
          go_round
          case rel => exact ⟨j + 1, by omega, by go_num, by rw [HSt.out, if_neg (fun h => k2 h.2.1), Int.add_zero]⟩
          case measure => simp [intOf]; omega
      · go_wp2
        go_round
        case rel => exact ⟨j + 1, by omega, by go_num, by rw [HSt.out, if_neg (fun h => k1 h.1), Int.add_zero]⟩
        case measure => simp [intOf]; omega
    · have hj' : ¬ ((j : Int) < 16) := by omega
      obtain rfl : j = 16 := by omega
      go_wp2
      go_ret
      exact ⟨rfl, rfl⟩

end Go.Proofs.Ytobkefggfghhfaa

/- Wide values (a whole map, a whole run) read and written at once. -/
namespace Go.Proofs.Ytobkefggfghhfaa
open Go.RowKit

theorem Try.sizeMap : (Try.prog.info? 68).map (·.size) = some 32 := by kernel_rfl
theorem Try.sizeRun : (Try.prog.info? 74).map (·.size) = some 40 := by kernel_rfl

/-- a wide operation at which the walk is to stand still -/
structure WOp (op : Oper) (a : Act) (w : World) (K : Act → World → Prop) (Q : Exit → Act → World → Prop) : Prop where
  out : op.wp Try.prog a w K Q
theorem wop_eq (op : Oper) (a : Act) (w : World) (K : Act → World → Prop) (Q : Exit → Act → World → Prop) : Oper.wp Try.prog op a w K Q = WOp op a w K Q := propext ⟨fun h => ⟨h⟩, fun h => h.out⟩
section
variable (d : Option Tmp) (x y : Operand) (ty : TypeId) (ps : String) (af : Array Edge) (gd : Option (Nat × Bool)) (a : Act) (w : World) (K : Act → World → Prop) (Q : Exit → Act → World → Prop)
theorem wStM : Oper.wp Try.prog ⟨d, .store 68 x y, ty, ps, af, gd⟩ a w K Q = WOp ⟨d, .store 68 x y, ty, ps, af, gd⟩ a w K Q := wop_eq _ _ _ _ _
theorem wStR : Oper.wp Try.prog ⟨d, .store 74 x y, ty, ps, af, gd⟩ a w K Q = WOp ⟨d, .store 74 x y, ty, ps, af, gd⟩ a w K Q := wop_eq _ _ _ _ _
theorem wLdM : Oper.wp Try.prog ⟨d, .load 68 x, ty, ps, af, gd⟩ a w K Q = WOp ⟨d, .load 68 x, ty, ps, af, gd⟩ a w K Q := wop_eq _ _ _ _ _
theorem wLdR : Oper.wp Try.prog ⟨d, .load 74 x, ty, ps, af, gd⟩ a w K Q = WOp ⟨d, .load 74 x, ty, ps, af, gd⟩ a w K Q := wop_eq _ _ _ _ _
end

/-- a whole block written: the world behind it by its facts -/
theorem wp_stN {op : Oper} {a : Act} {w : World} {K : Act → World → Prop} {Q : Exit → Act → World → Prop} {T : TypeId} {x y : Operand} (b : Nat) {c c' : Array Value} (ho : op.op = .store T x y)
    (hx : a.eval x = .pointer (some ⟨b, 0, none⟩)) (hy : a.eval y = .agg c') (hb : w.heap[b]? = some (.cells c T (0, 0))) (hi : (Try.prog.info? T).map (·.size) = some c'.size) (hs : c.size = c'.size) (h1 : c'.all (·.oneCell') = true)
    (h : ∀ w', w'.heap[b]? = some (.cells c' T (0, 0)) → Fr (fun k => k = b) w w' → K (a.put op.dst undef) w') : WOp op a w K Q := by
  have hr := run_storeVar_row (P := Try.prog) w b T T c c' hb hi hs h1
  constructor
  unfold Oper.wp execOp
  simp only [ho, hx, hy, Instr.storeAt, Instr.sureAddr, Sem.run_bind, Sem.run_pure, Result.andThen_ok, hr]
  exact h _ (setRow_heap w b c c' T _ hb) ⟨rfl, rfl, rfl, by simp [World.setRow], fun k _ hk => setRow_other w b k c' hk⟩
/-- a stretch of a block read -/
theorem wp_ldN {op : Oper} {a : Act} {w : World} {K : Act → World → Prop} {Q : Exit → Act → World → Prop} {T : TypeId} {x : Operand} (b o : Nat) {cs : List Value} {d : TypeDesc} (ho : op.op = .load T x)
    (hx : a.eval x = .pointer (some ⟨b, o, none⟩)) (hc : w.rangeAt b o cs) (hu : Try.prog.underlying T = some d) (hd : d.isRow = true) (hi : (Try.prog.info? T).map (·.size) = some cs.length)
    (h : K (a.put op.dst (.agg cs.toArray)) w) : WOp op a w K Q := ⟨wp_load_mid T x ho b o hx cs d hc hu hd hi h⟩

theorem mapCells_one (f : Int → Int) : (mapCells f).toArray.all (·.oneCell') = true := by
  refine all_oneCell_toArray (fun v hv => ?_)
  rcases List.mem_append.1 hv with h | h
  · obtain ⟨k, _, rfl⟩ := List.mem_map.1 h; rfl
  · obtain ⟨k, _, rfl⟩ := List.mem_map.1 h; rfl

theorem results_cell1 {fn : Func} {a : Tmp} {T : TypeId} (h : fn.results = #[.cell a T]) {tmps : Array Value} {P : Program} {w : World} {b : Addr} {v : Value} (ha : tmps.getD a undef = .pointer (some b)) (hl : (loadVar T b).run P w = .ok v w) :
    (results fn tmps).run P w = .ok v w := by
  rw [Array.getD_eq_getD_getElem?] at ha
  simp [results, h, ha, asAddr, hl]
theorem results_cell2 {fn : Func} {a t : Tmp} {T : TypeId} (h : fn.results = #[.cell a T, .tmp t]) {tmps : Array Value} {P : Program} {w : World} {b : Addr} {v u : Value} (ha : tmps.getD a undef = .pointer (some b)) (hu : tmps.getD t undef = u) (hl : (loadVar T b).run P w = .ok v w) :
    (results fn tmps).run P w = .ok (.tuple #[v, u]) w := by
  rw [Array.getD_eq_getD_getElem?] at ha hu
  simp [results, h, ha, asAddr, hl, hu, Result.andThen]

theorem new1E (w : World) (a o : Obj) : ((w.alloc a).alloc o).heap[w.heap.size + 1]? = some o := by have := heap_alloc_new (w.alloc a) o; rwa [World.size_alloc] at this
theorem new0E (w : World) (a o : Obj) : ((w.alloc a).alloc o).heap[w.heap.size]? = some a := (Below.heap_alloc _ _ _ (by simp)).trans (heap_alloc_new w a)

/-- a stretch of a block -/
theorem blk_rangeAt {w : World} {b o : Nat} {pre cs post : List Value} {t : TypeId} {fr : Nat × Nat} (h : w.heap[b]? = some (.cells (pre ++ cs ++ post).toArray t fr)) (ho : pre.length = o) : w.rangeAt b o cs := fun j v hj => by
  have hlt : j < cs.length := (List.getElem?_eq_some_iff.1 hj).1
  rw [blk_cell h, List.getElem?_toArray, List.getElem?_append_left (by simp; omega), List.getElem?_append_right (by omega), ← ho, Nat.add_sub_cancel_left]
  exact hj

/-- a map's own block -/
def MapBlk (w : World) (b : Nat) (f : Int → Int) : Prop := w.heap[b]? = some (.cells (mapCells f).toArray 68 (0, 0))
theorem MapBlk.at {w : World} {b : Nat} {f : Int → Int} (h : MapBlk w b f) : MapAt w b 0 f := blk_rangeAt (pre := []) (post := []) (by simpa [MapBlk] using h) rfl
theorem MapBlk.load {w : World} {b : Nat} {f : Int → Int} (h : MapBlk w b f) : (loadVar 68 ⟨b, 0, none⟩).run Try.prog w = .ok (.agg (mapCells f).toArray) w :=
  run_loadVar_mid w b 0 _ _ _ h.at Try.underlying68 rfl (by rw [Try.sizeMap, length_mapCells])
theorem mapZ : (#[.bool false, .bool false, .bool false, .bool false, .bool false, .bool false, .bool false, .bool false, .bool false, .bool false, .bool false, .bool false, .bool false, .bool false, .bool false, .bool false, .int .i64 0, .int .i64 0, .int .i64 0, .int .i64 0, .int .i64 0, .int .i64 0, .int .i64 0, .int .i64 0, .int .i64 0, .int .i64 0, .int .i64 0, .int .i64 0, .int .i64 0, .int .i64 0, .int .i64 0, .int .i64 0] : Array Value) = (mapCells (fun _ => -1)).toArray := by rfl

end Go.Proofs.Ytobkefggfghhfaa

/- The program's own FromPairs. -/
namespace Go.Proofs.Ytobkefggfghhfaa
open Go.RowKit
attribute [local go_sem ↓] wStM wStR wLdM wLdR

theorem map_range_set (g : Nat → Value) (n k : Nat) (a : Value) : ((List.range n).map g).set k a = (List.range n).map (fun j => if j = k then a else g j) := by
  apply List.ext_getElem
  · simp
  · intro i h1 h2
    simp [List.getElem_set]
    by_cases h : k = i
    · subst h; simp
    · rw [if_neg h, if_neg (fun e => h e.symm)]

theorem mapCells_set (f g : Int → Int) (k : Nat) (a b : Value) (hk : k < 16) (ha : ∀ j : Nat, j < 16 → (if j = k then a else Value.bool (decide (0 ≤ f j))) = Value.bool (decide (0 ≤ g j))) (hb : ∀ j : Nat, j < 16 → (if j = k then b else Value.int .i64 (pos (f j))) = Value.int .i64 (pos (g j))) :
    ((mapCells f).set k a).set (16 + k) b = mapCells g := by
  unfold mapCells
  rw [List.set_append_left _ _ (by simpa using hk), List.set_append_right _ _ (by simp), map_range_set, List.length_map, List.length_range, Nat.add_sub_cancel_left, map_range_set]
  congr 1
  · exact List.map_congr_left (fun j hj => ha j (List.mem_range.1 hj))
  · exact List.map_congr_left (fun j hj => hb j (List.mem_range.1 hj))

theorem mapCells_put (f : Int → Int) (k : Nat) (v : Int) (hk : k < 16) (hv : 0 ≤ v) : ((mapCells f).set k (.bool true)).set (16 + k) (.int .i64 v) = mapCells (fun j => if (k : Int) = j then v else f j) := by
  refine mapCells_set f _ k _ _ hk (fun j _ => ?_) (fun j _ => ?_)
  · by_cases h : j = k
    · subst h; simp [hv]
    · rw [if_neg h, if_neg (by omega)]
  · by_cases h : j = k
    · subst h; simp [pos, hv]
    · rw [if_neg h, if_neg (by omega)]
theorem mapCells_del (f : Int → Int) (k : Nat) (hk : k < 16) : ((mapCells f).set k (.bool false)).set (16 + k) (.int .i64 0) = mapCells (fun j => if (k : Int) = j then -1 else f j) := by
  refine mapCells_set f _ k _ _ hk (fun j _ => ?_) (fun j _ => ?_)
  · by_cases h : j = k
    · subst h; simp
    · rw [if_neg h, if_neg (by omega)]
  · by_cases h : j = k
    · subst h; simp [pos]
    · rw [if_neg h, if_neg (by omega)]

theorem MapBlk.put {w : World} {b : Nat} {f : Int → Int} (h : MapBlk w b f) {k v : Int} (h0 : 0 ≤ k) (h1 : k ≤ 15) (hv : 0 ≤ v) : MapBlk ((w.setCell ⟨b, 0 + k.toNat, none⟩ (.bool true)).setCell ⟨b, 0 + 16 + k.toNat, none⟩ (.int .i64 v)) b (fun j => if k = j then v else f j) := by
  obtain ⟨n, rfl⟩ : ∃ n : Nat, k = n := ⟨k.toNat, by omega⟩
  unfold MapBlk
  rw [blk_set (blk_set h _ _), List.setIfInBounds_toArray, List.setIfInBounds_toArray, Int.toNat_natCast, Nat.zero_add, Nat.zero_add, mapCells_put _ _ _ (by omega) hv]

theorem vIn_snoc : ∀ (m : List (Int × Int)) (p : Int × Int) (k : Int), (∀ q ∈ m, q.1 ≠ p.1) → vIn (m ++ [p]) k = if p.1 = k then p.2 else vIn m k
  | [], p, k, _ => rfl
  | q :: r, p, k, h => by
    rw [List.cons_append, vIn, vIn, vIn_snoc r p k (fun t ht => h t (by simp [ht]))]
    by_cases hk : q.1 = k
    · rw [if_pos hk, if_pos hk, if_neg (fun e => h q (by simp) (hk.trans e.symm))]
    · rw [if_neg hk, if_neg hk]
theorem vIn_take {l : List (Int × Int)} {j : Nat} (hj : j < l.length) (h : ∀ t, t < j → (l.getD t pz).1 < (l.getD j pz).1) : vIn (l.take (j + 1)) = fun k => if (l.getD j pz).1 = k then (l.getD j pz).2 else vIn (l.take j) k := by
  funext k
  have e : l.getD j pz = l[j] := by simp [List.getD, hj]
  rw [← List.take_append_getElem hj, vIn_snoc, e]
  intro q hq
  obtain ⟨t, ht, rfl⟩ := List.getElem_of_mem hq
  simp at ht
  have := h t (by omega)
  rw [e] at this
  simp [List.getD, show t < l.length by omega] at this
  simp
  omega

/-- what holds at each round of FromPairs -/
structure FromRel (l : List (Int × Int)) (w : World) (j : Nat) (least : Int) (wr : World) : Prop where
  good : ∀ t, t < j → goodP l t = true
  lo : 0 ≤ least
  hi : least ≤ 16
  up : ∀ t, t < j → (l.getD t pz).1 < least
  eq : least = if j = 0 then 0 else (l.getD (j - 1) pz).1 + 1
  res : MapBlk wr w.heap.size (fun _ => -1)
  blk : MapBlk wr (w.heap.size + 1) (vIn (l.take j))
  bel : Below w.heap.size w wr

def Fromed (l : List (Int × Int)) (w : World) (e : Ending) (w' : World) : Prop :=
  e = .returned (.tuple #[.agg (mapCells (if mapB l = true then vIn l else fun _ => -1)).toArray, .bool (mapB l)]) ∧ Below w.heap.size w w'

theorem from_bad {l : List (Int × Int)} {j : Nat} {least : Int} {w wr : World} (h : FromRel l w j least wr) (hj : j < l.length) (hb : (l.getD j pz).1 < least ∨ 16 ≤ (l.getD j pz).1 ∨ (l.getD j pz).2 < 0 ∨ 9999 < (l.getD j pz).2) : mapB l = false := by
  refine mapB_bad hj ?_
  cases hg : goodP l j
  · rfl
  · simp only [goodP, keyB, Bool.and_eq_true, Bool.or_eq_true, decide_eq_true_eq] at hg
    have := h.eq
    have h0 := h.lo
    by_cases h1 : j = 0
    · rw [if_pos h1] at this; omega
    · rw [if_neg h1] at this; omega
theorem MapBlk.alloc {w : World} {b : Nat} {f : Int → Int} (h : MapBlk w b f) (o : Obj) : MapBlk (w.alloc o) b f := (Below.heap_alloc _ _ _ (blk_lt h)).trans h
theorem MapBlk.free {w : World} {b : Nat} {f : Int → Int} (h : MapBlk w b f) (i : Nat) : w.frozen? ⟨b, i, none⟩ = false := blk_free h
theorem MapBlk.other {w : World} {b b' i : Nat} {f : Int → Int} {v : Value} (h : MapBlk w b f) (hb : b ≠ b') : MapBlk (w.setCell ⟨b', i, none⟩ v) b f := (blk_other hb i v).trans h
theorem from_next {l : List (Int × Int)} {j : Nat} {least : Int} {w wr w' : World} (h : FromRel l w j least wr) (hj : j < l.length) (h1 : ¬ (l.getD j pz).1 < least) (h2 : (l.getD j pz).1 < 16) (h3 : 0 ≤ (l.getD j pz).2) (h4 : (l.getD j pz).2 ≤ 9999)
    (hres : MapBlk w' w.heap.size (fun _ => -1)) (hblk : MapBlk w' (w.heap.size + 1) (fun k => if (l.getD j pz).1 = k then (l.getD j pz).2 else vIn (l.take j) k)) (hb : Below w.heap.size w w') : FromRel l w (j + 1) ((l.getD j pz).1 + 1) w' := by
  have h0 := h.lo
  refine ⟨fun t ht => ?_, by omega, by omega, fun t ht => ?_, by simp, hres, ?_, hb⟩
  · by_cases e : t = j
    · subst e
      have := h.eq
      simp only [goodP, keyB, Bool.and_eq_true, Bool.or_eq_true, decide_eq_true_eq]
      refine ⟨⟨by omega, h3, h4⟩, ?_⟩
      by_cases e0 : t = 0
      · exact Or.inl e0
      · rw [if_neg e0] at this; exact Or.inr (by omega)
    · exact h.good t (by omega)
  · by_cases e : t = j
    · subst e; omega
    · have := h.up t (by omega); omega
  · rw [vIn_take hj (fun t ht => by have := h.up t ht; omega)]
    exact hblk

theorem from_round {l : List (Int × Int)} {j : Nat} {least p1 p2 : Int} {w wr W2 : World} (h : FromRel l w j least wr) (hj : j < l.length) (hp : (p1, p2) = l.getD j pz) (q : ¬ p1 < least) (q1 : ¬ 16 ≤ p1) (q2 : ¬ p2 < 0) (q3 : ¬ 9999 < p2)
    (hW : W2 = ((wr.alloc (.cells #[.int .i64 p1, .int .i64 p2] 38)).setCell ⟨w.heap.size + 1, 0 + p1.toNat, none⟩ (.bool true)).setCell ⟨w.heap.size + 1, 0 + 16 + p1.toNat, none⟩ (.int .i64 p2)) :
    FromRel l w (j + 1) (p1 + 1) W2 ∧ W2.cell? ⟨wr.heap.size, 0, none⟩ = some (.int .i64 p1) := by
  subst hW
  have h1 : (l.getD j pz).1 = p1 := by rw [← hp]
  have h2 : (l.getD j pz).2 = p2 := by rw [← hp]
  have hlt1 := blk_lt h.blk
  have h0 := h.lo
  have hput := h.blk.alloc (.cells #[.int .i64 p1, .int .i64 p2] 38)
  refine ⟨?_, ?_⟩
  · have := from_next h hj (w' := ((wr.alloc (.cells #[.int .i64 p1, .int .i64 p2] 38)).setCell ⟨w.heap.size + 1, 0 + p1.toNat, none⟩ (.bool true)).setCell ⟨w.heap.size + 1, 0 + 16 + p1.toNat, none⟩ (.int .i64 p2)) (by omega) (by omega) (by omega) (by omega) (((h.res.alloc _).other (by omega)).other (by omega)) (by rw [h1, h2]; exact hput.put (by omega) (by omega) (by omega)) (((h.bel.alloc h.bel.size _).setCell (p := ⟨w.heap.size + 1, _, none⟩) (Nat.le_succ _) _).setCell (p := ⟨w.heap.size + 1, _, none⟩) (Nat.le_succ _) _)
    rwa [h1] at this
  · have hb : (((wr.alloc (.cells #[.int .i64 p1, .int .i64 p2] 38)).setCell ⟨w.heap.size + 1, 0 + p1.toNat, none⟩ (.bool true)).setCell ⟨w.heap.size + 1, 0 + 16 + p1.toNat, none⟩ (.int .i64 p2)).heap[wr.heap.size]? = some (.cells #[.int .i64 p1, .int .i64 p2] 38 (0, 0)) := by
      rw [blk_other (by omega), blk_other (by omega)]; exact heap_alloc_new wr _
    rw [blk_cell hb]; rfl

set_option maxRecDepth 100000 in
set_option maxHeartbeats 2000000 in
theorem from_at (g off cap n : Nat) (l : List (Int × Int)) (w : World) (hn : n = l.length) (hm : n ≤ 140737488351232) (hg : g < w.heap.size) (hs : PairsAt w g off l) :
    Calls Try.prog 35 #[.slice (some ⟨g, off, none⟩) n cap] w fun e w' => Fromed l w e w' := by
  have HN : Hid (n = l.length) := hn
  have HP : Hid (PairsAt w g off l) := hs
  clear hn hs
  go_enter Try.func35, Try.ntmps35
  go_wp2
  refine wp_stN (T := 68) (w.heap.size + 1) (by rfl) (by rfl) (by rfl) (by exact new1E _ _ _) (by exact Try.sizeMap) (by rfl) (by exact mapZ ▸ mapCells_one _) ?_
  rintro W hW hF
  rw [mapZ] at hW
  have HW : Hid (MapBlk W (w.heap.size + 1) (fun _ => -1) ∧ MapBlk W w.heap.size (fun _ => -1) ∧ Below w.heap.size w W) := ⟨hW, (hF.block _ (by simp; omega) (by omega)).trans ((new0E _ _ _).trans (by rw [mapZ])), (((Below.refl _ w).alloc (Nat.le_refl _) _).alloc (by simp) _).trans (hF.below (by omega) (by simp; omega))⟩
  clear hW hF
  go_wp2
  go_loopw [5, 11] (fun lv i wr => ∃ (j : Nat) (least : Int), j ≤ n ∧ i = .int .i64 j ∧ lv = .int .i64 least ∧ FromRel l w j least wr) (fun _ i _ => n - (intOf i).toNat)
  case atStart => exact ⟨0, 0, Nat.zero_le _, rfl, rfl, ⟨fun t ht => absurd ht (Nat.not_lt_zero _), Int.le_refl _, by omega, fun t ht => absurd ht (Nat.not_lt_zero _), rfl, HW.out.2.1, HW.out.1, HW.out.2.2⟩⟩
  case round =>
    obtain ⟨j, least, hj, rfl, rfl, hrel⟩ := hrel
    have HR : Hid (FromRel l w j least _) := hrel
    have h0 := hrel.lo
    have h16 := hrel.hi
    clear hrel HW
    by_cases hlt : j < n
    · have hlt' : j < l.length := by rw [← HN.out]; exact hlt
      obtain ⟨c0, c1⟩ := (HP.out.below HR.out.bel hg) j hlt'
      obtain ⟨p, hp⟩ : ∃ p, p = l.getD j pz := ⟨_, rfl⟩
      rw [← hp] at c0 c1
      have HPq : Hid (p = l.getD j pz) := hp
      clear hp
      obtain ⟨p1, p2⟩ := p
      simp only at c0 c1
      have m1 : (j : Int) < (n : Int) := by omega
      rcases (show p1 < least ∨ (¬ p1 < least ∧ 16 ≤ p1) ∨ (¬ p1 < least ∧ ¬ 16 ≤ p1 ∧ p2 < 0) ∨ (¬ p1 < least ∧ ¬ 16 ≤ p1 ∧ ¬ p2 < 0 ∧ 9999 < p2) ∨ (¬ p1 < least ∧ ¬ 16 ≤ p1 ∧ ¬ p2 < 0 ∧ ¬ 9999 < p2) by omega) with q | ⟨q, q1⟩ | ⟨q, q1, q2⟩ | ⟨q, q1, q2, q3⟩ | ⟨q, q1, q2, q3⟩
      iterate 4
        · have hbad : mapB l = false := from_bad HR.out hlt' (by rw [← HPq.out]; simp only; omega)
          go_wp2
          refine wp_stN (T := 68) w.heap.size (by rfl) (by rfl) (by rfl) (by exact HR.out.res.alloc _) (by exact Try.sizeMap) (by simp [length_mapCells]) (by exact mapZ ▸ mapCells_one _) ?_
          rintro W2 hW2 hF2
          have HW2 : Hid (MapBlk W2 w.heap.size (fun _ => -1) ∧ Below w.heap.size w W2) := ⟨by rw [mapZ] at hW2; exact hW2, (HR.out.bel.alloc HR.out.bel.size _).trans (hF2.below (by omega) (by simp; have := HR.out.bel.size; omega))⟩
          clear hW2 hF2
          go_wp2
          refine bodyPost_ret (results_cell2 (by rfl) (by rfl) (by rfl) HW2.out.1.load) rfl ⟨?_, HW2.out.2⟩
          rw [hbad]; rfl
      · have HPut : Hid (MapBlk (wr.alloc (.cells #[.int .i64 p1, .int .i64 p2] 38)) (w.heap.size + 1) (vIn (l.take j))) := HR.out.blk.alloc (.cells #[.int .i64 p1, .int .i64 p2] 38)
        go_wp2_with (go_at_call 51; refine (put_any _ (w.heap.size + 1) 0 _ p1 p2 HPut.out.at HPut.out.free (by omega) (by omega)).mono ?_; rintro e W2 ⟨rfl, hW2⟩; have HX : Hid (FromRel l w (j + 1) (p1 + 1) W2 ∧ W2.cell? ⟨wr.heap.size, 0, none⟩ = some (.int .i64 p1)) := from_round HR.out hlt' HPq.out (by omega) (by omega) (by omega) (by omega) hW2; have c2 := HX.out.2; clear hW2)
        go_roundw
        case rel => exact ⟨j + 1, p1 + 1, by omega, by go_num, by go_num, HX.out.1⟩
        case measure => simp [intOf]; omega
    · obtain rfl : j = n := by omega
      have e : l.take j = l := by rw [HN.out]; exact List.take_length
      have hgood : mapB l = true := mapB_good (fun i hi => HR.out.good i (by rw [HN.out]; exact hi))
      have HL : Hid (MapBlk wr (w.heap.size + 1) (vIn l)) := by have := HR.out.blk; rw [e] at this; exact this
      go_wp2
      refine wp_ldN (T := 68) (w.heap.size + 1) 0 (by rfl) (by rfl) (by exact HL.out.at) (by exact Try.underlying68) (by rfl) (by rw [Try.sizeMap, length_mapCells]) ?_
      go_wp2
      refine wp_stN (T := 68) w.heap.size (by rfl) (by rfl) (by rfl) (by exact HR.out.res) (by rw [Try.sizeMap]; simp [length_mapCells]) (by simp [length_mapCells]) (by exact mapCells_one _) ?_
      rintro W2 hW2 hF2
      have HW2 : Hid (MapBlk W2 w.heap.size (vIn l) ∧ Below w.heap.size w W2) := ⟨hW2, HR.out.bel.trans (hF2.below (by omega) HR.out.bel.size)⟩
      clear hW2 hF2
      go_wp2
      refine bodyPost_ret (results_cell2 (by rfl) (by rfl) (by rfl) HW2.out.1.load) rfl ⟨?_, HW2.out.2⟩
      rw [hgood]; rfl

set_option maxRecDepth 100000 in
set_option maxHeartbeats 1000000 in
theorem from_none (ao : Option Addr) (cap : Nat) (w : World) :
    Calls Try.prog 35 #[.slice ao 0 cap] w fun e w' => Fromed [] w e w' := by
  go_enter Try.func35, Try.ntmps35
  go_wp2
  refine wp_stN (T := 68) (w.heap.size + 1) (by rfl) (by rfl) (by rfl) (by exact new1E _ _ _) (by exact Try.sizeMap) (by rfl) (by exact mapZ ▸ mapCells_one _) ?_
  rintro W hW hF
  rw [mapZ] at hW
  have HW : Hid (MapBlk W (w.heap.size + 1) (fun _ => -1) ∧ MapBlk W w.heap.size (fun _ => -1) ∧ Below w.heap.size w W) := ⟨hW, (hF.block _ (by simp; omega) (by omega)).trans ((new0E _ _ _).trans (by rw [mapZ])), (((Below.refl _ w).alloc (Nat.le_refl _) _).alloc (by simp) _).trans (hF.below (by omega) (by simp; omega))⟩
  clear hW hF
  go_wp2
  go_loop [5, 11] (fun lv i => i = .int .i64 0 ∧ lv = .int .i64 0) (fun _ _ => 0)
  case atStart => exact ⟨rfl, rfl⟩
  case round =>
    obtain ⟨rfl, rfl⟩ := hrel
    go_wp2
    refine wp_ldN (T := 68) (w.heap.size + 1) 0 (by rfl) (by rfl) (by exact HW.out.1.at) (by exact Try.underlying68) (by rfl) (by rw [Try.sizeMap, length_mapCells]) ?_
    go_wp2
    refine wp_stN (T := 68) w.heap.size (by rfl) (by rfl) (by rfl) (by exact HW.out.2.1) (by rw [Try.sizeMap]; simp [length_mapCells]) (by simp [length_mapCells]) (by exact mapCells_one _) ?_
    rintro W2 hW2 hF2
    have HW2 : Hid (MapBlk W2 w.heap.size (vIn []) ∧ Below w.heap.size w W2) := ⟨hW2, HW.out.2.2.trans (hF2.below (by omega) HW.out.2.2.size)⟩
    clear hW2 hF2
    go_wp2
    refine bodyPost_ret (results_cell2 (by rfl) (by rfl) (by rfl) HW2.out.1.load) rfl ⟨?_, HW2.out.2⟩
    rfl

theorem from_any (v : Value) (l : List (Int × Int)) (w : World) (h : PairsV w w.heap.size v l) :
    Calls Try.prog 35 #[v] w fun e w' => Fromed l w e w' := by
  obtain ⟨ao, cap, rfl, hm, h⟩ := h
  rcases h with rfl | ⟨b, off, rfl, hb, hs⟩
  · exact from_none ao cap w
  · exact from_at b off cap _ l w rfl hm hb hs

end Go.Proofs.Ytobkefggfghhfaa

/- The program's own run in memory; small methods. -/
namespace Go.Proofs.Ytobkefggfghhfaa
open Go.RowKit

/-- the 40 cells of an engine.Run -/
def engCells (st : Int) (x : Mo) (f : Int → Int) (tv : Value) : List Value :=
  (.int .i64 st :: .int .i64 (x.pc : Int) :: .int .i64 (x.done : Int) :: x.regs.map (Value.int .i64)) ++ mapCells f ++ [tv]

theorem mid_set (pre cs post : List Value) (i : Nat) (v : Value) (hi : i < cs.length) : (pre ++ cs ++ post).set (pre.length + i) v = pre ++ cs.set i v ++ post := by
  rw [List.set_append_left _ _ (by simp; omega), List.set_append_right _ _ (by omega), Nat.add_sub_cancel_left]

/-- a run that lies at block px -/
structure Eng (B : Nat) (w : World) (px : Nat) (tv : Value) (st : Int) (x : Mo) (f : Int → Int) : Prop where
  bpx : B ≤ px
  blk : w.heap[px]? = some (.cells (engCells st x f tv).toArray 74 (0, 0))
  rlen : x.regs.length = 4
  told : w.ownsRow B 3 1 tv x.told.length (x.told.map (Value.int .i64))

namespace Eng
variable {B : Nat} {w : World} {px : Nat} {tv : Value} {st : Int} {x : Mo} {f : Int → Int}

theorem ne_t (h : Eng B w px tv st x f) : tv.ownBlock ≠ some px := owns_ne h.told h.blk (by decide)
theorem fPx (h : Eng B w px tv st x f) (i : Nat) : w.frozen? ⟨px, i, none⟩ = false := blk_free h.blk
theorem lt (h : Eng B w px tv st x f) : px < w.heap.size := blk_lt h.blk
theorem cSt (h : Eng B w px tv st x f) : w.cell? ⟨px, 0, none⟩ = some (.int .i64 st) := by rw [blk_cell h.blk]; rfl
theorem cPc (h : Eng B w px tv st x f) : w.cell? ⟨px, 1, none⟩ = some (.int .i64 (x.pc : Int)) := by rw [blk_cell h.blk]; rfl
theorem cDone (h : Eng B w px tv st x f) : w.cell? ⟨px, 2, none⟩ = some (.int .i64 (x.done : Int)) := by rw [blk_cell h.blk]; rfl
theorem cReg (h : Eng B w px tv st x f) {n : Nat} (hn : n < 4) : w.cell? ⟨px, 3 + n, none⟩ = some (.int .i64 (x.regs.getD n 0)) := by
  have hl := h.rlen
  rw [blk_cell h.blk, List.getElem?_toArray, engCells, List.append_assoc, List.getElem?_append_left (by simp; omega), show 3 + n = n + 1 + 1 + 1 by omega]
  simp [List.getD, show n < x.regs.length by omega]
theorem cTold (h : Eng B w px tv st x f) : w.cell? ⟨px, 39, none⟩ = some tv := by
  have hl := h.rlen
  rw [blk_cell h.blk, List.getElem?_toArray, engCells, List.getElem?_append_right (by simp [length_mapCells]; omega)]
  simp [length_mapCells, hl]
theorem map (h : Eng B w px tv st x f) : MapAt w px 7 f := blk_rangeAt h.blk (by simp [h.rlen])

theorem set1 (h : Eng B w px tv st x f) {i : Nat} {v : Value} {st' : Int} {x' : Mo} {f' : Int → Int} (he : (engCells st x f tv).set i v = engCells st' x' f' tv) (hl : x'.regs.length = 4) (ht : x'.told = x.told) : Eng B (w.setCell ⟨px, i, none⟩ v) px tv st' x' f' :=
  ⟨h.bpx, by rw [blk_set h.blk, List.setIfInBounds_toArray, he], hl, by rw [ht]; exact owns_set h.told h.ne_t _ _⟩
theorem set2 (h : Eng B w px tv st x f) {i j : Nat} {v u : Value} {st' : Int} {x' : Mo} {f' : Int → Int} (he : ((engCells st x f tv).set i v).set j u = engCells st' x' f' tv) (hl : x'.regs.length = 4) (ht : x'.told = x.told) : Eng B ((w.setCell ⟨px, i, none⟩ v).setCell ⟨px, j, none⟩ u) px tv st' x' f' :=
  ⟨h.bpx, by rw [blk_set (blk_set h.blk _ _), List.setIfInBounds_toArray, List.setIfInBounds_toArray, he], hl, by rw [ht]; exact owns_set (owns_set h.told h.ne_t _ _) h.ne_t _ _⟩

theorem setSt (h : Eng B w px tv st x f) (s : Int) : Eng B (w.setCell ⟨px, 0, none⟩ (.int .i64 s)) px tv s x f := h.set1 rfl h.rlen rfl
theorem setPc (h : Eng B w px tv st x f) (n : Nat) : Eng B (w.setCell ⟨px, 1, none⟩ (.int .i64 (n : Int))) px tv st { x with pc := n } f := h.set1 rfl h.rlen rfl
theorem setDone (h : Eng B w px tv st x f) (n : Nat) : Eng B (w.setCell ⟨px, 2, none⟩ (.int .i64 (n : Int))) px tv st { x with done := n } f := h.set1 rfl h.rlen rfl
theorem setR (h : Eng B w px tv st x f) {n : Nat} (hn : n < 4) (v : Int) : Eng B (w.setCell ⟨px, 3 + n, none⟩ (.int .i64 v)) px tv st { x with regs := x.regs.set n v } f := by
  refine h.set1 ?_ (by simpa using h.rlen) rfl
  have hl := h.rlen
  rw [engCells, engCells, List.append_assoc, List.append_assoc, List.set_append_left _ _ (by simp; omega), show 3 + n = n + 1 + 1 + 1 by omega, List.set_cons_succ, List.set_cons_succ, List.set_cons_succ, ← List.map_set]
theorem putM (h : Eng B w px tv st x f) {k v : Int} (h0 : 0 ≤ k) (h1 : k ≤ 15) (hv : 0 ≤ v) (p : Int → Option Int) :
    Eng B ((w.setCell ⟨px, 7 + k.toNat, none⟩ (.bool true)).setCell ⟨px, 7 + 16 + k.toNat, none⟩ (.int .i64 v)) px tv st { x with puts := p } (fun j => if k = j then v else f j) := by
  obtain ⟨n, rfl⟩ : ∃ n : Nat, k = n := ⟨k.toNat, by omega⟩
  refine h.set2 ?_ h.rlen rfl
  have hl := h.rlen
  have e7 : (Value.int .i64 st :: .int .i64 (x.pc : Int) :: .int .i64 (x.done : Int) :: x.regs.map (Value.int .i64)).length = 7 := by simp [hl]
  rw [Int.toNat_natCast, Nat.add_assoc, ← e7, engCells, engCells, mid_set _ _ _ _ _ (by rw [length_mapCells]; omega), mid_set _ _ _ _ _ (by rw [List.length_set, length_mapCells]; omega), mapCells_put _ _ _ (by omega) hv]
theorem delM (h : Eng B w px tv st x f) {k : Int} (h0 : 0 ≤ k) (h1 : k ≤ 15) (p : Int → Option Int) :
    Eng B ((w.setCell ⟨px, 7 + k.toNat, none⟩ (.bool false)).setCell ⟨px, 7 + 16 + k.toNat, none⟩ (.int .i64 0)) px tv st { x with puts := p } (fun j => if k = j then -1 else f j) := by
  obtain ⟨n, rfl⟩ : ∃ n : Nat, k = n := ⟨k.toNat, by omega⟩
  refine h.set2 ?_ h.rlen rfl
  have hl := h.rlen
  have e7 : (Value.int .i64 st :: .int .i64 (x.pc : Int) :: .int .i64 (x.done : Int) :: x.regs.map (Value.int .i64)).length = 7 := by simp [hl]
  rw [Int.toNat_natCast, Nat.add_assoc, ← e7, engCells, engCells, mid_set _ _ _ _ _ (by rw [length_mapCells]; omega), mid_set _ _ _ _ _ (by rw [List.length_set, length_mapCells]; omega), mapCells_del _ _ (by omega)]

theorem congr (h : Eng B w px tv st x f) {x' : Mo} {f' : Int → Int} {st' : Int} (e1 : x = x') (e2 : f = f') (e3 : st = st') : Eng B w px tv st' x' f' := e1 ▸ e2 ▸ e3 ▸ h
/-- what a step does not touch -/
theorem like (h : Eng B w px tv st x f) {x' : Mo} (e1 : x'.pc = x.pc) (e2 : x'.done = x.done) (e3 : x'.regs = x.regs) (e4 : x'.told = x.told) : Eng B w px tv st x' f :=
  ⟨h.bpx, by rw [h.blk, engCells, engCells, e1, e2, e3], by rw [e3]; exact h.rlen, by rw [e4]; exact h.told⟩
theorem fr {w' : World} {S : Nat → Prop} (h : Eng B w px tv st x f) (hf : Fr S w w') (hS : ∀ k, (k = px ∨ tv.ownBlock = some k) → ¬ S k) : Eng B w' px tv st x f :=
  ⟨h.bpx, hf.blk h.blk (hS _ (Or.inl rfl)), h.rlen, owns_fr h.told hf (fun _ hk => hS _ (Or.inr hk))⟩
theorem below {w' : World} (h : Eng B w px tv st x f) (hb : Below w.heap.size w w') : Eng B w' px tv st x f := h.fr (S := fun _ => False) (Fr.of_below hb) (fun _ _ hs => hs)
theorem alloc (h : Eng B w px tv st x f) (o : Obj) : Eng B (w.alloc o) px tv st x f := h.fr ((Fr.refl (fun _ => False) w).alloc o) (fun _ _ hs => hs)
theorem drew (h : Eng B w px tv st x f) : Eng B w.drew px tv st x f := h.fr ((Fr.refl (fun _ => False) w).drew) (fun _ _ hs => hs)
theorem drewN (h : Eng B w px tv st x f) (n : Nat) : Eng B (w.drewN n) px tv st x f := h.fr ((Fr.refl (fun _ => False) w).drewN n) (fun _ _ hs => hs)
end Eng

set_option maxRecDepth 100000 in
set_option maxHeartbeats 400000 in
theorem register_any (B : Nat) (w : World) (px : Nat) (tv : Value) (st : Int) (x : Mo) (f : Int → Int) (a : Int) (h : Eng B w px tv st x f) (h0 : 0 ≤ a) (h1 : a ≤ 3) :
    Calls Try.prog 63 #[.pointer (some ⟨px, 0, none⟩), .int .i64 a] w fun e w' => e = .returned (.int .i64 (reg x a)) ∧ w' = w := by
  obtain ⟨n, rfl⟩ : ∃ n : Nat, a = n := ⟨a.toNat, by omega⟩
  have c := h.cReg (n := n) (by omega)
  clear h
  go_enter Try.func63, Try.ntmps63
  go_wp2
  go_ret
  exact ⟨ret_int (by simp [reg]), rfl⟩

def Became (B : Nat) (w : World) (px : Nat) (tv : Value) (st : Int) (x : Mo) (f : Int → Int) (a v : Int) (e : Ending) (w' : World) : Prop :=
  e = .returned (.tuple #[]) ∧ Eng B w' px tv (if v < 0 ∨ 9999 < v then 5 else st) (bec x a v) f ∧ Below B w w'

set_option maxRecDepth 100000 in
set_option maxHeartbeats 400000 in
theorem become_any (B : Nat) (w : World) (px : Nat) (tv : Value) (st : Int) (x : Mo) (f : Int → Int) (a v : Int) (h : Eng B w px tv st x f) (h0 : 0 ≤ a) (h1 : a ≤ 3) :
    Calls Try.prog 66 #[.pointer (some ⟨px, 0, none⟩), .int .i64 a, .int .i64 v] w fun e w' => Became B w px tv st x f a v e w' := by
  obtain ⟨n, rfl⟩ : ∃ n : Nat, a = n := ⟨a.toNat, by omega⟩
  have c0 := h.cSt
  have c := h.cReg (n := n) (by omega)
  have f0 := h.fPx 0
  have f1 := h.fPx (3 + n)
  have H : Hid (Eng B w px tv st x f) := h
  clear h
  rcases (show v < 0 ∨ (0 ≤ v ∧ 9999 < v) ∨ (0 ≤ v ∧ v ≤ 9999) by omega) with k | ⟨k, k'⟩ | ⟨k, k'⟩
  · go_enter Try.func66, Try.ntmps66
    go_wp2
    refine bodyPost_ret (results_none rfl _ _ _) rfl ?_
    refine ⟨rfl, ?_, (Below.refl _ _).setCell (p := ⟨px, _, none⟩) H.out.bpx _⟩
    rw [if_pos (Or.inl k), bec, if_pos (Or.inl k)]
    exact (H.out.setSt 5).like rfl rfl rfl rfl
  · have k1 : ¬ v < 0 := by omega
    clear k
    go_enter Try.func66, Try.ntmps66
    go_wp2
    refine bodyPost_ret (results_none rfl _ _ _) rfl ?_
    refine ⟨rfl, ?_, (Below.refl _ _).setCell (p := ⟨px, _, none⟩) H.out.bpx _⟩
    rw [if_pos (Or.inr k'), bec, if_pos (Or.inr k')]
    exact (H.out.setSt 5).like rfl rfl rfl rfl
  · have k1 : ¬ v < 0 := by omega
    have k2 : ¬ 9999 < v := by omega
    have n4 : (n : Int) < 4 := by omega
    clear k k'
    go_enter Try.func66, Try.ntmps66
    go_wp2
    go_end0
    refine ⟨rfl, ?_, (Below.refl _ _).setCell (p := ⟨px, _, none⟩) H.out.bpx _⟩
    rw [if_neg (by omega), bec, if_neg (by omega)]
    exact (H.out.setR (by omega) v).congr (by simp [setReg]) rfl rfl

end Go.Proofs.Ytobkefggfghhfaa

/- The program's own 'number'. -/
namespace Go.Proofs.Ytobkefggfghhfaa
open Go.RowKit

theorem below_drewN {B : Nat} {w w' : World} (h : Below B w w') (n : Nat) : Below B w (w'.drewN n) := ⟨h.os, h.tape, h.output, h.size, h.block⟩

/-- what a register becomes -/
def numE (s : St) (x : Mo) (f : Int → Int) : Int :=
  if s.op = 1 then s.b else if s.op = 2 then pos (f s.b) else if s.op = 5 then sumK f s.b (s.c - s.b + 1).toNat else if s.op = 6 then cntK f s.b (s.c - s.b + 1).toNat
  else if s.op = 7 then reg x s.a + reg x s.b else reg x s.a - reg x s.b

def Numb (s : St) (x : Mo) (f : Int → Int) (w : World) (e : Ending) (w' : World) : Prop := e = .returned (.int .i64 (numE s x f)) ∧ Below w.heap.size w w'

set_option maxRecDepth 100000 in
set_option maxHeartbeats 400000 in
theorem number_1 (B : Nat) (w : World) (px : Nat) (tv : Value) (st : Int) (x : Mo) (f : Int → Int) (a b c : Int) (h : Eng B w px tv st x f) (h1 : 0 ≤ a) (h2 : a ≤ 3) :
    Calls Try.prog 65 #[.pointer (some ⟨px, 0, none⟩), .agg #[.int .i64 1, .int .i64 a, .int .i64 b, .int .i64 c]] w fun e w' => Numb ⟨1, a, b, c⟩ x f w e w' := by
  have H : Hid (Eng B w px tv st x f) := h
  clear h
  go_enter Try.func65, Try.ntmps65
  go_wp2_with (first | (go_at_call 63; refine (register_any B _ px tv st x f _ (H.out.alloc _) (by omega) (by omega)).mono ?_; rintro e w' ⟨rfl, rfl⟩))
  go_ret
  exact ⟨ret_int (by simp [numE]), (Below.refl _ _).alloc (Nat.le_refl _) _⟩

set_option maxRecDepth 100000 in
set_option maxHeartbeats 400000 in
theorem number_2 (B : Nat) (w : World) (px : Nat) (tv : Value) (st : Int) (x : Mo) (f : Int → Int) (a b c : Int) (h : Eng B w px tv st x f) (h1 : 0 ≤ a) (h2 : a ≤ 3) (h3 : 0 ≤ b) (h4 : b ≤ 15) :
    Calls Try.prog 65 #[.pointer (some ⟨px, 0, none⟩), .agg #[.int .i64 2, .int .i64 a, .int .i64 b, .int .i64 c]] w fun e w' => Numb ⟨2, a, b, c⟩ x f w e w' := by
  have H : Hid (Eng B w px tv st x f) := h
  clear h
  go_enter Try.func65, Try.ntmps65
  go_wp2_with (go_at_call 63; refine (register_any B _ px tv st x f _ (H.out.alloc _) (by omega) (by omega)).mono ?_; rintro e w' ⟨rfl, rfl⟩)
  have HM : Hid (∀ n, MapAt ((w.alloc (.cells #[.int .i64 2, .int .i64 a, .int .i64 b, .int .i64 c] 36)).drewN n) px 7 f) := fun n => ((H.out.alloc _).drewN n).map
  go_quiet ((go_at_call 67; exact Calls.quiet_of_same (value_any _ px 7 f _ (HM.out _) (by omega) (by omega))))
  go_wp2
  go_ret
  exact ⟨ret_int (by simp [numE]), below_drewN ((Below.refl _ _).alloc (Nat.le_refl _) _) _⟩

set_option maxRecDepth 100000 in
set_option maxHeartbeats 400000 in
theorem number_5 (B : Nat) (w : World) (px : Nat) (tv : Value) (st : Int) (x : Mo) (f : Int → Int) (a b c : Int) (h : Eng B w px tv st x f) (h1 : 0 ≤ a) (h2 : a ≤ 3) (h3 : 0 ≤ b) (h4 : b ≤ c) (h5 : c ≤ 15) (hf : ∀ k, f k ≤ 9999) :
    Calls Try.prog 65 #[.pointer (some ⟨px, 0, none⟩), .agg #[.int .i64 5, .int .i64 a, .int .i64 b, .int .i64 c]] w fun e w' => Numb ⟨5, a, b, c⟩ x f w e w' := by
  have H : Hid (Eng B w px tv st x f) := h
  clear h
  have HF : Hid (∀ k, f k ≤ 9999) := hf
  clear hf
  go_enter Try.func65, Try.ntmps65
  go_wp2_with (go_at_call 63; refine (register_any B _ px tv st x f _ (H.out.alloc _) (by omega) (by omega)).mono ?_; rintro e w' ⟨rfl, rfl⟩)
  have HM : Hid (∀ n, MapAt ((w.alloc (.cells #[.int .i64 5, .int .i64 a, .int .i64 b, .int .i64 c] 36)).drewN n) px 7 f) := fun n => ((H.out.alloc _).drewN n).map
  go_quiet ((go_at_call 68; exact Calls.quiet_of_same (sum_any _ px 7 f _ _ (HM.out _) HF.out (by omega) (by omega) (by omega))))
  go_wp2
  go_ret
  exact ⟨ret_int (by simp [numE]), below_drewN ((Below.refl _ _).alloc (Nat.le_refl _) _) _⟩

set_option maxRecDepth 100000 in
set_option maxHeartbeats 400000 in
theorem number_6 (B : Nat) (w : World) (px : Nat) (tv : Value) (st : Int) (x : Mo) (f : Int → Int) (a b c : Int) (h : Eng B w px tv st x f) (h1 : 0 ≤ a) (h2 : a ≤ 3) (h3 : 0 ≤ b) (h4 : b ≤ c) (h5 : c ≤ 15) :
    Calls Try.prog 65 #[.pointer (some ⟨px, 0, none⟩), .agg #[.int .i64 6, .int .i64 a, .int .i64 b, .int .i64 c]] w fun e w' => Numb ⟨6, a, b, c⟩ x f w e w' := by
  have H : Hid (Eng B w px tv st x f) := h
  clear h
  go_enter Try.func65, Try.ntmps65
  go_wp2_with (go_at_call 63; refine (register_any B _ px tv st x f _ (H.out.alloc _) (by omega) (by omega)).mono ?_; rintro e w' ⟨rfl, rfl⟩)
  have HM : Hid (∀ n, MapAt ((w.alloc (.cells #[.int .i64 6, .int .i64 a, .int .i64 b, .int .i64 c] 36)).drewN n) px 7 f) := fun n => ((H.out.alloc _).drewN n).map
  go_quiet ((go_at_call 69; exact Calls.quiet_of_same (count_any _ px 7 f _ _ (HM.out _) (by omega) (by omega) (by omega))))
  go_wp2
  go_ret
  exact ⟨ret_int (by simp [numE]), below_drewN ((Below.refl _ _).alloc (Nat.le_refl _) _) _⟩

set_option maxRecDepth 100000 in
set_option maxHeartbeats 400000 in
theorem number_7 (B : Nat) (w : World) (px : Nat) (tv : Value) (st : Int) (x : Mo) (f : Int → Int) (a b c : Int) (h : Eng B w px tv st x f) (h1 : 0 ≤ a) (h2 : a ≤ 3) (h3 : 0 ≤ b) (h4 : b ≤ 3) {N : Nat} (hok : MoOk N x) :
    Calls Try.prog 65 #[.pointer (some ⟨px, 0, none⟩), .agg #[.int .i64 7, .int .i64 a, .int .i64 b, .int .i64 c]] w fun e w' => Numb ⟨7, a, b, c⟩ x f w e w' := by
  have H : Hid (Eng B w px tv st x f) := h
  clear h
  have hw : IntKind.i64.wrap (reg x a + reg x b) = reg x a + reg x b := by have := reg_le hok a; have := reg_le hok b; rw [IntKind.wrap_i64]; omega
  clear hok
  go_enter Try.func65, Try.ntmps65
  go_wp2_with (first | (go_at_call 63; refine (register_any B _ px tv st x f _ (H.out.alloc _) (by omega) (by omega)).mono ?_; rintro e w' ⟨rfl, rfl⟩))
  go_ret
  exact ⟨ret_int (by simp [numE]), (Below.refl _ _).alloc (Nat.le_refl _) _⟩

set_option maxRecDepth 100000 in
set_option maxHeartbeats 400000 in
theorem number_8 (B : Nat) (w : World) (px : Nat) (tv : Value) (st : Int) (x : Mo) (f : Int → Int) (a b c : Int) (h : Eng B w px tv st x f) (h1 : 0 ≤ a) (h2 : a ≤ 3) (h3 : 0 ≤ b) (h4 : b ≤ 3) {N : Nat} (hok : MoOk N x) :
    Calls Try.prog 65 #[.pointer (some ⟨px, 0, none⟩), .agg #[.int .i64 8, .int .i64 a, .int .i64 b, .int .i64 c]] w fun e w' => Numb ⟨8, a, b, c⟩ x f w e w' := by
  have H : Hid (Eng B w px tv st x f) := h
  clear h
  have hw : IntKind.i64.wrap (reg x a - reg x b) = reg x a - reg x b := by have := reg_le hok a; have := reg_le hok b; rw [IntKind.wrap_i64]; omega
  clear hok
  go_enter Try.func65, Try.ntmps65
  go_wp2_with (first | (go_at_call 63; refine (register_any B _ px tv st x f _ (H.out.alloc _) (by omega) (by omega)).mono ?_; rintro e w' ⟨rfl, rfl⟩))
  go_ret
  exact ⟨ret_int (by simp [numE]), (Below.refl _ _).alloc (Nat.le_refl _) _⟩

end Go.Proofs.Ytobkefggfghhfaa

/- The program's own 'do'. -/
namespace Go.Proofs.Ytobkefggfghhfaa
open Go.RowKit

/-- the state of a run that goes on, or has ended by a step -/
def stOf (y : Mo) : Int := if y.fin = 0 then 2 else y.fin

/-- what 'do' leaves: the run x is as it was ahead of the step, y behind it -/
def Did (B : Nat) (w : World) (px : Nat) (m : Int → Int) (y : Mo) (e : Ending) (w' : World) : Prop :=
  e = .returned (.tuple #[]) ∧ ∃ tv', Eng B w' px tv' (stOf y) y (see m y.puts) ∧ Below B w w'

def nxt (x : Mo) : Mo := { x with done := x.done + 1, pc := x.pc + 1 }

theorem see_put (m : Int → Int) (x : Mo) (k v : Int) : see m (putAt x k v).puts = fun j => if k = j then v else see m x.puts j := by
  funext j
  simp only [see, putAt]
  by_cases h : k = j
  · rw [if_pos h, if_pos h]; rfl
  · rw [if_neg h, if_neg h]

set_option maxRecDepth 100000 in
set_option maxHeartbeats 400000 in
theorem do_3 (B : Nat) (w : World) (px : Nat) (tv : Value) (x : Mo) (m : Int → Int) (a b c : Int) (hfin : x.fin = 0) (h : Eng B w px tv 2 x (see m x.puts)) (hB : B ≤ w.heap.size) (hx : 0 ≤ reg x b) (h1 : 0 ≤ a) (h2 : a ≤ 15) (h3 : 0 ≤ b) (h4 : b ≤ 3) :
    Calls Try.prog 60 #[.pointer (some ⟨px, 0, none⟩), .agg #[.int .i64 3, .int .i64 a, .int .i64 b, .int .i64 c]] w fun e w' => Did B w px m (putAt x a (reg x b)) e w' := by
  have H : Hid (Eng B w px tv 2 x (see m x.puts)) := h
  have HF : Hid (stOf (putAt x a (reg x b)) = 2) := by show _ = _; simp [stOf, putAt, hfin]
  have hlt := h.lt
  have HB : Hid (B ≤ w.heap.size) := hB
  clear h hfin hB
  obtain ⟨f, hf⟩ : ∃ f, f = see m x.puts := ⟨_, rfl⟩
  have HS : Hid (f = see m x.puts) := hf
  rw [← hf] at H
  clear hf
  go_enter Try.func60, Try.ntmps60
  go_wp2_with (go_at_call 63; refine (register_any B _ px tv 2 x f _ (H.out.alloc _) (by omega) (by omega)).mono ?_; rintro e w' ⟨rfl, rfl⟩)
  go_region_with (go_at_call 51; refine (put_any _ px 7 f _ _ ((H.out.alloc _).drewN _).map ((H.out.alloc _).drewN _).fPx (by omega) (by omega)).mono ?_; rintro e W2 ⟨rfl, hW2⟩; have HW : Hid (Eng B W2 px tv 2 (putAt x a (reg x b)) (fun j => if a = j then reg x b else f j) ∧ Below B w W2) := by { subst hW2; exact ⟨((H.out.alloc _).drewN _).putM h1 h2 hx _, ((below_drewN ((Below.refl _ _).alloc HB.out _) _).setCell (p := ⟨px, _, none⟩) H.out.bpx _).setCell (p := ⟨px, _, none⟩) H.out.bpx _⟩ }; clear hW2)
  go_wp2
  go_end0
  exact ⟨rfl, tv, HW.out.1.congr rfl (by rw [see_put, HS.out]) HF.out.symm, HW.out.2⟩

set_option maxRecDepth 100000 in
set_option maxHeartbeats 400000 in
theorem do_4 (B : Nat) (w : World) (px : Nat) (tv : Value) (x : Mo) (m : Int → Int) (a b c : Int) (hfin : x.fin = 0) (h : Eng B w px tv 2 x (see m x.puts)) (hB : B ≤ w.heap.size) (h1 : 0 ≤ a) (h2 : a ≤ 15) :
    Calls Try.prog 60 #[.pointer (some ⟨px, 0, none⟩), .agg #[.int .i64 4, .int .i64 a, .int .i64 b, .int .i64 c]] w fun e w' => Did B w px m (putAt x a (-1)) e w' := by
  have H : Hid (Eng B w px tv 2 x (see m x.puts)) := h
  have HF : Hid (stOf (putAt x a (-1)) = 2) := by show _ = _; simp [stOf, putAt, hfin]
  have hlt := h.lt
  have HB : Hid (B ≤ w.heap.size) := hB
  clear h hfin hB
  obtain ⟨f, hf⟩ : ∃ f, f = see m x.puts := ⟨_, rfl⟩
  have HS : Hid (f = see m x.puts) := hf
  rw [← hf] at H
  clear hf
  go_enter Try.func60, Try.ntmps60
  go_wp2
  go_region_with (go_at_call 64; refine (del_any _ px 7 f _ ((H.out.alloc _).drewN _).map ((H.out.alloc _).drewN _).fPx (by omega) (by omega)).mono ?_; rintro e W2 ⟨rfl, hW2⟩; have HW : Hid (Eng B W2 px tv 2 (putAt x a (-1)) (fun j => if a = j then -1 else f j) ∧ Below B w W2) := by { subst hW2; exact ⟨((H.out.alloc _).drewN _).delM h1 h2 _, ((below_drewN ((Below.refl _ _).alloc HB.out _) _).setCell (p := ⟨px, _, none⟩) H.out.bpx _).setCell (p := ⟨px, _, none⟩) H.out.bpx _⟩ }; clear hW2)
  go_wp2
  go_end0
  exact ⟨rfl, tv, HW.out.1.congr rfl (by rw [see_put, HS.out]) HF.out.symm, HW.out.2⟩

set_option maxRecDepth 100000 in
set_option maxHeartbeats 400000 in
theorem do_12 (B : Nat) (w : World) (px : Nat) (tv : Value) (x : Mo) (m : Int → Int) (a b c : Int) (h : Eng B w px tv 2 x (see m x.puts)) (hB : B ≤ w.heap.size)  :
    Calls Try.prog 60 #[.pointer (some ⟨px, 0, none⟩), .agg #[.int .i64 12, .int .i64 a, .int .i64 b, .int .i64 c]] w fun e w' => Did B w px m { x with fin := 4 } e w' := by
  have H : Hid (Eng B w px tv 2 x (see m x.puts)) := h
  have HF : Hid (stOf { x with fin := 4 } = 4) := by show _ = _; simp [stOf]
  have hlt := h.lt
  have HB : Hid (B ≤ w.heap.size) := hB
  clear h hB
  obtain ⟨f, hf⟩ : ∃ f, f = see m x.puts := ⟨_, rfl⟩
  have HS : Hid (f = see m x.puts) := hf
  rw [← hf] at H
  clear hf
  go_enter Try.func60, Try.ntmps60
  have c0 := H.out.cSt
  have f0 := H.out.fPx 0
  go_wp2
  go_end0
  refine ⟨rfl, tv, ?_, ((Below.refl _ _).setCell (p := ⟨px, _, none⟩) H.out.bpx _).alloc (by simpa using HB.out) _⟩
  have h4 : Eng B ((w.setCell ⟨px, 0, none⟩ (.int .i64 4)).alloc (.cells #[.int .i64 12, .int .i64 a, .int .i64 b, .int .i64 c] 36)) px tv 4 { x with fin := 4 } f := ((H.out.setSt 4).alloc _).like rfl rfl rfl rfl
  exact h4.congr rfl HS.out HF.out.symm

set_option maxRecDepth 100000 in
set_option maxHeartbeats 400000 in
theorem do_9y (B : Nat) (w : World) (px : Nat) (tv : Value) (x : Mo) (m : Int → Int) (a b c : Int) (hfin : x.fin = 0) (h : Eng B w px tv 2 x (see m x.puts)) (hB : B ≤ w.heap.size) (hr : reg x a = 0) (hpc : x.pc ≤ 1000) (h1 : 0 ≤ a) (h2 : a ≤ 3) (h3 : 0 ≤ b) (h4 : b ≤ 32) :
    Calls Try.prog 60 #[.pointer (some ⟨px, 0, none⟩), .agg #[.int .i64 9, .int .i64 a, .int .i64 b, .int .i64 c]] w fun e w' => Did B w px m { x with pc := x.pc + b.toNat } e w' := by
  have H : Hid (Eng B w px tv 2 x (see m x.puts)) := h
  have HF : Hid (stOf { x with pc := x.pc + b.toNat } = 2) := by show _ = _; simp [stOf, hfin]
  have hlt := h.lt
  have HB : Hid (B ≤ w.heap.size) := hB
  clear h hfin hB
  obtain ⟨f, hf⟩ : ∃ f, f = see m x.puts := ⟨_, rfl⟩
  have HS : Hid (f = see m x.puts) := hf
  rw [← hf] at H
  clear hf
  have c1 := H.out.cPc
  have f1 := H.out.fPx 1
  obtain ⟨n, rfl⟩ : ∃ n : Nat, b = n := ⟨b.toNat, by omega⟩
  have hw : IntKind.i64.wrap ((x.pc : Int) + n) = (x.pc : Int) + n := by rw [IntKind.wrap_i64]; omega
  have HP : Hid (((x.pc + (n : Int).toNat : Nat) : Int) = (x.pc : Int) + n) := by show _ = _; omega
  go_enter Try.func60, Try.ntmps60
  go_wp2_with (go_at_call 63; refine (register_any B _ px tv 2 x f _ (H.out.alloc _) (by omega) (by omega)).mono ?_; rintro e w' ⟨rfl, rfl⟩)
  go_region
  all_goals
    go_wp2
    go_end0
    refine ⟨rfl, tv, ?_, (((Below.refl _ _).setCell (p := ⟨px, _, none⟩) H.out.bpx _).alloc (by simpa using HB.out) _).drew⟩
    have := ((H.out.setPc (x.pc + (n : Int).toNat)).alloc (.cells #[.int .i64 9, .int .i64 a, .int .i64 (n : Int), .int .i64 c] 36)).drew
    rw [HP.out] at this
    exact this.congr rfl HS.out HF.out.symm

set_option maxRecDepth 100000 in
set_option maxHeartbeats 400000 in
theorem do_9n (B : Nat) (w : World) (px : Nat) (tv : Value) (x : Mo) (m : Int → Int) (a b c : Int) (hfin : x.fin = 0) (h : Eng B w px tv 2 x (see m x.puts)) (hB : B ≤ w.heap.size) (hr : ¬ reg x a = 0) (h1 : 0 ≤ a) (h2 : a ≤ 3) :
    Calls Try.prog 60 #[.pointer (some ⟨px, 0, none⟩), .agg #[.int .i64 9, .int .i64 a, .int .i64 b, .int .i64 c]] w fun e w' => Did B w px m x e w' := by
  have H : Hid (Eng B w px tv 2 x (see m x.puts)) := h
  have HF : Hid (stOf x = 2) := by show _ = _; simp [stOf, hfin]
  have hlt := h.lt
  have HB : Hid (B ≤ w.heap.size) := hB
  clear h hfin hB
  obtain ⟨f, hf⟩ : ∃ f, f = see m x.puts := ⟨_, rfl⟩
  have HS : Hid (f = see m x.puts) := hf
  rw [← hf] at H
  clear hf
  go_enter Try.func60, Try.ntmps60
  go_wp2_with (go_at_call 63; refine (register_any B _ px tv 2 x f _ (H.out.alloc _) (by omega) (by omega)).mono ?_; rintro e w' ⟨rfl, rfl⟩)
  go_end0
  exact ⟨rfl, tv, (H.out.alloc _).congr rfl HS.out HF.out.symm, ((Below.refl _ _).alloc HB.out _)⟩

set_option maxRecDepth 100000 in
set_option maxHeartbeats 400000 in
theorem do_10n (B : Nat) (w : World) (px : Nat) (tv : Value) (x : Mo) (m : Int → Int) (a b c : Int) (hfin : x.fin = 0) (h : Eng B w px tv 2 x (see m x.puts)) (hB : B ≤ w.heap.size) (hr : reg x a = 0) (h1 : 0 ≤ a) (h2 : a ≤ 3) :
    Calls Try.prog 60 #[.pointer (some ⟨px, 0, none⟩), .agg #[.int .i64 10, .int .i64 a, .int .i64 b, .int .i64 c]] w fun e w' => Did B w px m x e w' := by
  have H : Hid (Eng B w px tv 2 x (see m x.puts)) := h
  have HF : Hid (stOf x = 2) := by show _ = _; simp [stOf, hfin]
  have hlt := h.lt
  have HB : Hid (B ≤ w.heap.size) := hB
  clear h hfin hB
  obtain ⟨f, hf⟩ : ∃ f, f = see m x.puts := ⟨_, rfl⟩
  have HS : Hid (f = see m x.puts) := hf
  rw [← hf] at H
  clear hf
  go_enter Try.func60, Try.ntmps60
  go_wp2_with (go_at_call 63; refine (register_any B _ px tv 2 x f _ (H.out.alloc _) (by omega) (by omega)).mono ?_; rintro e w' ⟨rfl, rfl⟩)
  go_end0
  exact ⟨rfl, tv, (H.out.alloc _).congr rfl HS.out HF.out.symm, ((Below.refl _ _).alloc HB.out _)⟩

set_option maxRecDepth 100000 in
set_option maxHeartbeats 400000 in
theorem do_10y (B : Nat) (w : World) (px : Nat) (tv : Value) (x : Mo) (m : Int → Int) (a b c : Int) (hfin : x.fin = 0) (h : Eng B w px tv 2 x (see m x.puts)) (hB : B ≤ w.heap.size) (hr : ¬ reg x a = 0) (hpc : x.pc ≤ 1000) (h1 : 0 ≤ a) (h2 : a ≤ 3) (h3 : 0 ≤ b) (h4 : b + 1 ≤ x.pc) :
    Calls Try.prog 60 #[.pointer (some ⟨px, 0, none⟩), .agg #[.int .i64 10, .int .i64 a, .int .i64 b, .int .i64 c]] w fun e w' => Did B w px m { x with pc := x.pc - b.toNat - 1 } e w' := by
  have H : Hid (Eng B w px tv 2 x (see m x.puts)) := h
  have HF : Hid (stOf { x with pc := x.pc - b.toNat - 1 } = 2) := by show _ = _; simp [stOf, hfin]
  have hlt := h.lt
  have HB : Hid (B ≤ w.heap.size) := hB
  clear h hfin hB
  obtain ⟨f, hf⟩ : ∃ f, f = see m x.puts := ⟨_, rfl⟩
  have HS : Hid (f = see m x.puts) := hf
  rw [← hf] at H
  clear hf
  have c1 := H.out.cPc
  have f1 := H.out.fPx 1
  obtain ⟨n, rfl⟩ : ∃ n : Nat, b = n := ⟨b.toNat, by omega⟩
  have hw : IntKind.i64.wrap ((n : Int) + 1) = (n : Int) + 1 := by rw [IntKind.wrap_i64]; omega
  have hw2 : IntKind.i64.wrap ((x.pc : Int) - ((n : Int) + 1)) = (x.pc : Int) - ((n : Int) + 1) := by rw [IntKind.wrap_i64]; omega
  have HP : Hid (((x.pc - (n : Int).toNat - 1 : Nat) : Int) = (x.pc : Int) - ((n : Int) + 1)) := by show _ = _; omega
  go_enter Try.func60, Try.ntmps60
  go_wp2_with (go_at_call 63; refine (register_any B _ px tv 2 x f _ (H.out.alloc _) (by omega) (by omega)).mono ?_; rintro e w' ⟨rfl, rfl⟩)
  go_region
  all_goals
    go_wp2
    go_end0
    refine ⟨rfl, tv, ?_, (((Below.refl _ _).setCell (p := ⟨px, _, none⟩) H.out.bpx _).alloc (by simpa using HB.out) _).drew⟩
    have := ((H.out.setPc (x.pc - (n : Int).toNat - 1)).alloc (.cells #[.int .i64 10, .int .i64 a, .int .i64 (n : Int), .int .i64 c] 36)).drew
    rw [HP.out] at this
    exact this.congr rfl HS.out HF.out.symm

theorem Eng.tell {B : Nat} {W w2 : World} {px : Nat} {tv : Value} {st : Int} {x : Mo} {f : Int → Int} {r : Int} {g cap : Nat} (h : Eng B W px tv st x f) (hown : w2.ownsRow B 3 1 (.slice (some ⟨g, 0, none⟩) (x.told.length + 1) cap) (x.told.length + 1) (x.told.map (Value.int .i64) ++ [.int .i64 r])) (hg : W.grownBy w2 tv.ownBlock) :
    w2.cell? ⟨px, 39, none⟩ = some tv ∧ w2.frozen? ⟨px, 39, none⟩ = false ∧ Eng B (w2.setCell ⟨px, 39, none⟩ (.slice (some ⟨g, 0, none⟩) (x.told.length + 1) cap)) px (.slice (some ⟨g, 0, none⟩) (x.told.length + 1) cap) st { x with told := x.told ++ [r] } f := by
  have hF : Fr (fun k => tv.ownBlock = some k) W w2 := (Fr.refl _ W).grown hg (fun k hk _ => hk)
  have hpx : w2.heap[px]? = some (.cells (engCells st x f tv).toArray 74 (0, 0)) := hF.blk h.blk h.ne_t
  have hgp : (Value.slice (some ⟨g, 0, none⟩) (x.told.length + 1) cap).ownBlock ≠ some px := owns_ne hown hpx (by decide)
  have e39 : (engCells st x f tv).set 39 (.slice (some ⟨g, 0, none⟩) (x.told.length + 1) cap) = engCells st { x with told := x.told ++ [r] } f (.slice (some ⟨g, 0, none⟩) (x.told.length + 1) cap) := by
    have hl := h.rlen
    rw [engCells, engCells, List.set_append_right _ _ (by simp [length_mapCells]; omega)]
    simp [length_mapCells, hl]
  refine ⟨?_, blk_free hpx, h.bpx, by rw [blk_set hpx, List.setIfInBounds_toArray, e39], h.rlen, owns_set (by simpa using hown) hgp _ _⟩
  have hl := h.rlen
  rw [blk_cell hpx, List.getElem?_toArray, engCells, List.getElem?_append_right (by simp [length_mapCells]; omega)]
  simp [length_mapCells, hl]

set_option maxRecDepth 100000 in
set_option maxHeartbeats 400000 in
theorem do_11 (B : Nat) (w : World) (px : Nat) (tv : Value) (x : Mo) (m : Int → Int) (a b c : Int) (hfin : x.fin = 0) (h : Eng B w px tv 2 x (see m x.puts)) (hB : B ≤ w.heap.size) (htl : x.told.length ≤ 1000) (h1 : 0 ≤ a) (h2 : a ≤ 3) :
    Calls Try.prog 60 #[.pointer (some ⟨px, 0, none⟩), .agg #[.int .i64 11, .int .i64 a, .int .i64 b, .int .i64 c]] w fun e w' => Did B w px m { x with told := x.told ++ [reg x a] } e w' := by
  have H : Hid (Eng B w px tv 2 x (see m x.puts)) := h
  have HF : Hid (stOf { x with told := x.told ++ [reg x a] } = 2) := by show _ = _; simp [stOf, hfin]
  have hlt := h.lt
  have HB : Hid (B ≤ w.heap.size) := hB
  clear h hfin hB
  obtain ⟨f, hf⟩ : ∃ f, f = see m x.puts := ⟨_, rfl⟩
  have HS : Hid (f = see m x.puts) := hf
  rw [← hf] at H
  clear hf
  have c39 := H.out.cTold
  have f39 := H.out.fPx 39
  obtain ⟨i0, hi, hz0, hz1, hz2⟩ := info_parts Try.infoInt
  go_enter Try.func60, Try.ntmps60
  go_wp2_with (first | (go_at_call 63; refine (register_any B _ px tv 2 x f _ (H.out.alloc _) (by omega) (by omega)).mono ?_; rintro e w' ⟨rfl, rfl⟩) | (at_builtin; refine wpList_append_lies _ (by rfl) (.tmp 81) (.tmp 83) 33 (by rfl) B 3 i0 _ 1 8 Try.underlying33 hi hz0 hz1 hz2 (by rfl) (by decide) _ _ _ (by rfl) ((H.out.alloc _).alloc _).told ⟨w.heap.size + 1, 0, none⟩ 1 1 [.int .i64 (reg x a)] (by rfl) (by rfl) ?_ ?_ (by decide) ?_ ?_ ?_ _ (by rfl) ?_))
  · exact World.news_of_block (new1E _ _ _)
  · intro u hu; simp at hu; subst hu; rfl
  · unfold maxLen; omega
  · omega
  · have := HB.out; simp; omega
  · intro g1 cap1 w2 hown2 hgrow2 hat hlt2
    have HT : Hid (w2.cell? ⟨px, 39, none⟩ = some tv ∧ w2.frozen? ⟨px, 39, none⟩ = false ∧ Eng B (w2.setCell ⟨px, 39, none⟩ (.slice (some ⟨g1, 0, none⟩) (x.told.length + 1) cap1)) px (.slice (some ⟨g1, 0, none⟩) (x.told.length + 1) cap1) 2 { x with told := x.told ++ [reg x a] } f ∧ Below B w w2) := by
      obtain ⟨k1, k2, k3⟩ := Eng.tell ((H.out.alloc (.cells #[.int .i64 11, .int .i64 a, .int .i64 b, .int .i64 c] 36)).alloc (.cells #[.int .i64 (reg x a)] 3)) hown2 hgrow2
      exact ⟨k1, k2, k3, (((Below.refl _ _).alloc HB.out _).alloc (by have := HB.out; simp; omega) _).grown hgrow2 (by have := HB.out; simp; omega) (fun k hk => owns_ge H.out.told hk)⟩
    have k1 := HT.out.1
    have k2 := HT.out.2.1
    clear hown2 hgrow2 hat hlt2 c39 f39
    go_wp2
    go_end0
    exact ⟨rfl, _, HT.out.2.2.1.congr rfl HS.out HF.out.symm, HT.out.2.2.2.setCell (p := ⟨px, _, none⟩) H.out.bpx _⟩

end Go.Proofs.Ytobkefggfghhfaa

/- The program's own 'do', where a register becomes a number; and whole. -/
namespace Go.Proofs.Ytobkefggfghhfaa
open Go.RowKit

theorem stOf_bec {x : Mo} (hfin : x.fin = 0) (a v : Int) : (if v < 0 ∨ 9999 < v then (5 : Int) else 2) = stOf (bec x a v) := by
  unfold stOf bec
  by_cases h : v < 0 ∨ 9999 < v
  · rw [if_pos h, if_pos h]; simp
  · rw [if_neg h, if_neg h]; simp [setReg, hfin]
theorem becE_puts (x : Mo) (a v : Int) : (bec x a v).puts = x.puts := by unfold bec; split <;> rfl

set_option maxRecDepth 100000 in
set_option maxHeartbeats 400000 in
theorem do_1 (B : Nat) (w : World) (px : Nat) (tv : Value) (x : Mo) (m : Int → Int) (a b c : Int) (hfin : x.fin = 0) (h : Eng B w px tv 2 x (see m x.puts)) (hB : B ≤ w.heap.size) (h1 : 0 ≤ a) (h2 : a ≤ 3) :
    Calls Try.prog 60 #[.pointer (some ⟨px, 0, none⟩), .agg #[.int .i64 1, .int .i64 a, .int .i64 b, .int .i64 c]] w fun e w' => Did B w px m (bec x a (numE ⟨1, a, b, c⟩ x (see m x.puts))) e w' := by
  have H : Hid (Eng B w px tv 2 x (see m x.puts)) := h
  have HF : Hid (x.fin = 0) := hfin
  have HB : Hid (B ≤ w.heap.size) := hB
  clear h hfin hB
  obtain ⟨nv, hnv⟩ : ∃ nv, nv = numE ⟨1, a, b, c⟩ x (see m x.puts) := ⟨_, rfl⟩
  have HN : Hid (nv = numE ⟨1, a, b, c⟩ x (see m x.puts)) := hnv
  rw [← hnv]
  clear hnv
  go_enter Try.func60, Try.ntmps60
  go_wp2_with (first | (go_at_call 65; refine (number_1 B _ px tv 2 x (see m x.puts) a b c (H.out.alloc _) h1 h2).mono ?_; rintro e W2 ⟨rfl, hW2⟩; rw [← HN.out]; have HW : Hid (Eng B W2 px tv 2 x (see m x.puts) ∧ Below B w W2) := ⟨(H.out.alloc _).below hW2, ((Below.refl _ _).alloc HB.out _).trans (hW2.mono (by simp; have := HB.out; omega))⟩; have cb := (hW2.cell (p := ⟨w.heap.size, 1, none⟩) (by simp)); clear hW2) | (go_at_call 66; refine (become_any B _ px tv 2 x (see m x.puts) a nv HW.out.1 h1 h2).mono ?_; rintro e W3 ⟨rfl, hE, hb3⟩; have HE : Hid (Eng B W3 px tv (if nv < 0 ∨ 9999 < nv then 5 else 2) (bec x a nv) (see m x.puts) ∧ Below B w W3) := ⟨hE, HW.out.2.trans hb3⟩; clear hE hb3))
  go_end0
  exact ⟨rfl, tv, HE.out.1.congr rfl (by rw [becE_puts]) (stOf_bec HF.out a nv), HE.out.2⟩

set_option maxRecDepth 100000 in
set_option maxHeartbeats 400000 in
theorem do_2 (B : Nat) (w : World) (px : Nat) (tv : Value) (x : Mo) (m : Int → Int) (a b c : Int) (hfin : x.fin = 0) (h : Eng B w px tv 2 x (see m x.puts)) (hB : B ≤ w.heap.size) (h1 : 0 ≤ a) (h2 : a ≤ 3) (h3 : 0 ≤ b) (h4 : b ≤ 15) :
    Calls Try.prog 60 #[.pointer (some ⟨px, 0, none⟩), .agg #[.int .i64 2, .int .i64 a, .int .i64 b, .int .i64 c]] w fun e w' => Did B w px m (bec x a (numE ⟨2, a, b, c⟩ x (see m x.puts))) e w' := by
  have H : Hid (Eng B w px tv 2 x (see m x.puts)) := h
  have HF : Hid (x.fin = 0) := hfin
  have HB : Hid (B ≤ w.heap.size) := hB
  clear h hfin hB
  obtain ⟨nv, hnv⟩ : ∃ nv, nv = numE ⟨2, a, b, c⟩ x (see m x.puts) := ⟨_, rfl⟩
  have HN : Hid (nv = numE ⟨2, a, b, c⟩ x (see m x.puts)) := hnv
  rw [← hnv]
  clear hnv
  go_enter Try.func60, Try.ntmps60
  go_wp2_with (first | (go_at_call 65; refine (number_2 B _ px tv 2 x (see m x.puts) a b c (H.out.alloc _) h1 h2 h3 h4).mono ?_; rintro e W2 ⟨rfl, hW2⟩; rw [← HN.out]; have HW : Hid (Eng B W2 px tv 2 x (see m x.puts) ∧ Below B w W2) := ⟨(H.out.alloc _).below hW2, ((Below.refl _ _).alloc HB.out _).trans (hW2.mono (by simp; have := HB.out; omega))⟩; have cb := (hW2.cell (p := ⟨w.heap.size, 1, none⟩) (by simp)); clear hW2) | (go_at_call 66; refine (become_any B _ px tv 2 x (see m x.puts) a nv HW.out.1 h1 h2).mono ?_; rintro e W3 ⟨rfl, hE, hb3⟩; have HE : Hid (Eng B W3 px tv (if nv < 0 ∨ 9999 < nv then 5 else 2) (bec x a nv) (see m x.puts) ∧ Below B w W3) := ⟨hE, HW.out.2.trans hb3⟩; clear hE hb3))
  go_end0
  exact ⟨rfl, tv, HE.out.1.congr rfl (by rw [becE_puts]) (stOf_bec HF.out a nv), HE.out.2⟩

set_option maxRecDepth 100000 in
set_option maxHeartbeats 400000 in
theorem do_5 (B : Nat) (w : World) (px : Nat) (tv : Value) (x : Mo) (m : Int → Int) (a b c : Int) (hfin : x.fin = 0) (h : Eng B w px tv 2 x (see m x.puts)) (hB : B ≤ w.heap.size) (h1 : 0 ≤ a) (h2 : a ≤ 3) (h3 : 0 ≤ b) (h4 : b ≤ c) (h5 : c ≤ 15) (hs : ∀ k, see m x.puts k ≤ 9999) :
    Calls Try.prog 60 #[.pointer (some ⟨px, 0, none⟩), .agg #[.int .i64 5, .int .i64 a, .int .i64 b, .int .i64 c]] w fun e w' => Did B w px m (bec x a (numE ⟨5, a, b, c⟩ x (see m x.puts))) e w' := by
  have H : Hid (Eng B w px tv 2 x (see m x.puts)) := h
  have HF : Hid (x.fin = 0) := hfin
  have HB : Hid (B ≤ w.heap.size) := hB
  clear h hfin hB
  have HM : Hid (∀ k, see m x.puts k ≤ 9999) := hs
  clear hs
  obtain ⟨nv, hnv⟩ : ∃ nv, nv = numE ⟨5, a, b, c⟩ x (see m x.puts) := ⟨_, rfl⟩
  have HN : Hid (nv = numE ⟨5, a, b, c⟩ x (see m x.puts)) := hnv
  rw [← hnv]
  clear hnv
  go_enter Try.func60, Try.ntmps60
  go_wp2_with (first | (go_at_call 65; refine (number_5 B _ px tv 2 x (see m x.puts) a b c (H.out.alloc _) h1 h2 h3 h4 h5 HM.out).mono ?_; rintro e W2 ⟨rfl, hW2⟩; rw [← HN.out]; have HW : Hid (Eng B W2 px tv 2 x (see m x.puts) ∧ Below B w W2) := ⟨(H.out.alloc _).below hW2, ((Below.refl _ _).alloc HB.out _).trans (hW2.mono (by simp; have := HB.out; omega))⟩; have cb := (hW2.cell (p := ⟨w.heap.size, 1, none⟩) (by simp)); clear hW2) | (go_at_call 66; refine (become_any B _ px tv 2 x (see m x.puts) a nv HW.out.1 h1 h2).mono ?_; rintro e W3 ⟨rfl, hE, hb3⟩; have HE : Hid (Eng B W3 px tv (if nv < 0 ∨ 9999 < nv then 5 else 2) (bec x a nv) (see m x.puts) ∧ Below B w W3) := ⟨hE, HW.out.2.trans hb3⟩; clear hE hb3))
  go_end0
  exact ⟨rfl, tv, HE.out.1.congr rfl (by rw [becE_puts]) (stOf_bec HF.out a nv), HE.out.2⟩

set_option maxRecDepth 100000 in
set_option maxHeartbeats 400000 in
theorem do_6 (B : Nat) (w : World) (px : Nat) (tv : Value) (x : Mo) (m : Int → Int) (a b c : Int) (hfin : x.fin = 0) (h : Eng B w px tv 2 x (see m x.puts)) (hB : B ≤ w.heap.size) (h1 : 0 ≤ a) (h2 : a ≤ 3) (h3 : 0 ≤ b) (h4 : b ≤ c) (h5 : c ≤ 15) :
    Calls Try.prog 60 #[.pointer (some ⟨px, 0, none⟩), .agg #[.int .i64 6, .int .i64 a, .int .i64 b, .int .i64 c]] w fun e w' => Did B w px m (bec x a (numE ⟨6, a, b, c⟩ x (see m x.puts))) e w' := by
  have H : Hid (Eng B w px tv 2 x (see m x.puts)) := h
  have HF : Hid (x.fin = 0) := hfin
  have HB : Hid (B ≤ w.heap.size) := hB
  clear h hfin hB
  obtain ⟨nv, hnv⟩ : ∃ nv, nv = numE ⟨6, a, b, c⟩ x (see m x.puts) := ⟨_, rfl⟩
  have HN : Hid (nv = numE ⟨6, a, b, c⟩ x (see m x.puts)) := hnv
  rw [← hnv]
  clear hnv
  go_enter Try.func60, Try.ntmps60
  go_wp2_with (first | (go_at_call 65; refine (number_6 B _ px tv 2 x (see m x.puts) a b c (H.out.alloc _) h1 h2 h3 h4 h5).mono ?_; rintro e W2 ⟨rfl, hW2⟩; rw [← HN.out]; have HW : Hid (Eng B W2 px tv 2 x (see m x.puts) ∧ Below B w W2) := ⟨(H.out.alloc _).below hW2, ((Below.refl _ _).alloc HB.out _).trans (hW2.mono (by simp; have := HB.out; omega))⟩; have cb := (hW2.cell (p := ⟨w.heap.size, 1, none⟩) (by simp)); clear hW2) | (go_at_call 66; refine (become_any B _ px tv 2 x (see m x.puts) a nv HW.out.1 h1 h2).mono ?_; rintro e W3 ⟨rfl, hE, hb3⟩; have HE : Hid (Eng B W3 px tv (if nv < 0 ∨ 9999 < nv then 5 else 2) (bec x a nv) (see m x.puts) ∧ Below B w W3) := ⟨hE, HW.out.2.trans hb3⟩; clear hE hb3))
  go_end0
  exact ⟨rfl, tv, HE.out.1.congr rfl (by rw [becE_puts]) (stOf_bec HF.out a nv), HE.out.2⟩

set_option maxRecDepth 100000 in
set_option maxHeartbeats 400000 in
theorem do_7 (B : Nat) (w : World) (px : Nat) (tv : Value) (x : Mo) (m : Int → Int) (a b c : Int) (hfin : x.fin = 0) (h : Eng B w px tv 2 x (see m x.puts)) (hB : B ≤ w.heap.size) (h1 : 0 ≤ a) (h2 : a ≤ 3) (h3 : 0 ≤ b) (h4 : b ≤ 3) {N : Nat} (hok : MoOk N x) :
    Calls Try.prog 60 #[.pointer (some ⟨px, 0, none⟩), .agg #[.int .i64 7, .int .i64 a, .int .i64 b, .int .i64 c]] w fun e w' => Did B w px m (bec x a (numE ⟨7, a, b, c⟩ x (see m x.puts))) e w' := by
  have H : Hid (Eng B w px tv 2 x (see m x.puts)) := h
  have HF : Hid (x.fin = 0) := hfin
  have HB : Hid (B ≤ w.heap.size) := hB
  clear h hfin hB
  have HK : Hid (MoOk N x) := hok
  clear hok
  obtain ⟨nv, hnv⟩ : ∃ nv, nv = numE ⟨7, a, b, c⟩ x (see m x.puts) := ⟨_, rfl⟩
  have HN : Hid (nv = numE ⟨7, a, b, c⟩ x (see m x.puts)) := hnv
  rw [← hnv]
  clear hnv
  go_enter Try.func60, Try.ntmps60
  go_wp2_with (first | (go_at_call 65; refine (number_7 B _ px tv 2 x (see m x.puts) a b c (H.out.alloc _) h1 h2 h3 h4 HK.out).mono ?_; rintro e W2 ⟨rfl, hW2⟩; rw [← HN.out]; have HW : Hid (Eng B W2 px tv 2 x (see m x.puts) ∧ Below B w W2) := ⟨(H.out.alloc _).below hW2, ((Below.refl _ _).alloc HB.out _).trans (hW2.mono (by simp; have := HB.out; omega))⟩; have cb := (hW2.cell (p := ⟨w.heap.size, 1, none⟩) (by simp)); clear hW2) | (go_at_call 66; refine (become_any B _ px tv 2 x (see m x.puts) a nv HW.out.1 h1 h2).mono ?_; rintro e W3 ⟨rfl, hE, hb3⟩; have HE : Hid (Eng B W3 px tv (if nv < 0 ∨ 9999 < nv then 5 else 2) (bec x a nv) (see m x.puts) ∧ Below B w W3) := ⟨hE, HW.out.2.trans hb3⟩; clear hE hb3))
  go_end0
  exact ⟨rfl, tv, HE.out.1.congr rfl (by rw [becE_puts]) (stOf_bec HF.out a nv), HE.out.2⟩

set_option maxRecDepth 100000 in
set_option maxHeartbeats 400000 in
theorem do_8 (B : Nat) (w : World) (px : Nat) (tv : Value) (x : Mo) (m : Int → Int) (a b c : Int) (hfin : x.fin = 0) (h : Eng B w px tv 2 x (see m x.puts)) (hB : B ≤ w.heap.size) (h1 : 0 ≤ a) (h2 : a ≤ 3) (h3 : 0 ≤ b) (h4 : b ≤ 3) {N : Nat} (hok : MoOk N x) :
    Calls Try.prog 60 #[.pointer (some ⟨px, 0, none⟩), .agg #[.int .i64 8, .int .i64 a, .int .i64 b, .int .i64 c]] w fun e w' => Did B w px m (bec x a (numE ⟨8, a, b, c⟩ x (see m x.puts))) e w' := by
  have H : Hid (Eng B w px tv 2 x (see m x.puts)) := h
  have HF : Hid (x.fin = 0) := hfin
  have HB : Hid (B ≤ w.heap.size) := hB
  clear h hfin hB
  have HK : Hid (MoOk N x) := hok
  clear hok
  obtain ⟨nv, hnv⟩ : ∃ nv, nv = numE ⟨8, a, b, c⟩ x (see m x.puts) := ⟨_, rfl⟩
  have HN : Hid (nv = numE ⟨8, a, b, c⟩ x (see m x.puts)) := hnv
  rw [← hnv]
  clear hnv
  go_enter Try.func60, Try.ntmps60
  go_wp2_with (first | (go_at_call 65; refine (number_8 B _ px tv 2 x (see m x.puts) a b c (H.out.alloc _) h1 h2 h3 h4 HK.out).mono ?_; rintro e W2 ⟨rfl, hW2⟩; rw [← HN.out]; have HW : Hid (Eng B W2 px tv 2 x (see m x.puts) ∧ Below B w W2) := ⟨(H.out.alloc _).below hW2, ((Below.refl _ _).alloc HB.out _).trans (hW2.mono (by simp; have := HB.out; omega))⟩; have cb := (hW2.cell (p := ⟨w.heap.size, 1, none⟩) (by simp)); clear hW2) | (go_at_call 66; refine (become_any B _ px tv 2 x (see m x.puts) a nv HW.out.1 h1 h2).mono ?_; rintro e W3 ⟨rfl, hE, hb3⟩; have HE : Hid (Eng B W3 px tv (if nv < 0 ∨ 9999 < nv then 5 else 2) (bec x a nv) (see m x.puts) ∧ Below B w W3) := ⟨hE, HW.out.2.trans hb3⟩; clear hE hb3))
  go_end0
  exact ⟨rfl, tv, HE.out.1.congr rfl (by rw [becE_puts]) (stOf_bec HF.out a nv), HE.out.2⟩

theorem Did.like {B : Nat} {w : World} {px : Nat} {m : Int → Int} {y y' : Mo} {e : Ending} {w' : World} (h : Did B w px m y e w') (e1 : y'.pc = y.pc) (e2 : y'.done = y.done) (e3 : y'.regs = y.regs) (e4 : y'.told = y.told) (e5 : y'.puts = y.puts) (e6 : y'.fin = y.fin) : Did B w px m y' e w' := by
  obtain ⟨h1, tv, h2, h3⟩ := h
  refine ⟨h1, tv, ?_, h3⟩
  rw [e5, show stOf y' = stOf y by unfold stOf; rw [e6]]
  exact h2.like e1 e2 e3 e4

theorem Did.congr {B : Nat} {w : World} {px : Nat} {m : Int → Int} {y y' : Mo} {e : Ending} {w' : World} (h : Did B w px m y e w') (he : y = y') : Did B w px m y' e w' := he ▸ h

theorem bec_fine {x : Mo} {a v : Int} (h0 : 0 ≤ v) (h1 : v ≤ 9999) : bec x a v = setReg x a v := by rw [bec, if_neg (by omega)]

def agS (s : St) : Value := .agg #[.int .i64 s.op, .int .i64 s.a, .int .i64 s.b, .int .i64 s.c]

theorem do_any (B : Nat) (w : World) (px : Nat) (tv : Value) (x : Mo) (m : Int → Int) (s : St) (N : Nat) (hN : N ≤ 32) (hok : MoOk N x) (hpc : x.pc < N) (hs : stB s x.pc N = true) (hm : ∀ k, m k ≤ 9999) (hfin : x.fin = 0) (hd : x.done ≤ 1000)
    (h : Eng B w px tv 2 (nxt x) (see m x.puts)) (hB : B ≤ w.heap.size) :
    Calls Try.prog 60 #[.pointer (some ⟨px, 0, none⟩), agS s] w fun e w' => Did B w px m (stp s m x) e w' := by
  have hok1 : MoOk N (nxt x) := ⟨hok.len, hok.regs, hok.puts, hpc, Nat.le_succ_of_le hok.told⟩
  have hsee := see_le hok hm
  have hr := reg_le hok1
  have htl : (nxt x).told.length ≤ 1000 := Nat.le_trans hok.told hd
  have hf1 : (nxt x).fin = 0 := hfin
  have hp1 : (nxt x).pc = x.pc + 1 := rfl
  obtain ⟨op, a, b, c⟩ := s
  unfold stB stepB at hs
  simp only at hs
  unfold agS
  simp only
  split at hs
  · rename_i e; subst e
    simp [regB, inB] at hs
    refine (do_1 B w px tv (nxt x) m a b c hf1 h hB (by omega) (by omega)).mono fun e w' hd => hd.congr ?_
    have : numE ⟨1, a, b, c⟩ (nxt x) (see m (nxt x).puts) = b := rfl
    rw [this, bec_fine (by omega) (by omega)]
    simp [stp, nxt]
  split at hs
  · rename_i e1 e; subst e
    simp [regB, keyB] at hs
    refine (do_2 B w px tv (nxt x) m a b c hf1 h hB (by omega) (by omega) (by omega) (by omega)).mono fun e w' hd => ?_
    have : numE ⟨2, a, b, c⟩ (nxt x) (see m (nxt x).puts) = pos (see m x.puts b) := rfl
    have hp : 0 ≤ pos (see m x.puts b) ∧ pos (see m x.puts b) ≤ 9999 := by have := hsee b; unfold pos; split <;> omega
    rw [this, bec_fine hp.1 hp.2] at hd
    have e2 : stp ⟨2, a, b, c⟩ m x = setReg { nxt x with read := mark x.puts x.read b } a (pos (see m x.puts b)) := by
      have : (if see m x.puts b < 0 then 0 else see m x.puts b) = pos (see m x.puts b) := by unfold pos; split <;> split <;> omega
      simp [stp, nxt, this]
    rw [e2]
    exact hd.like rfl rfl rfl rfl rfl rfl
  split at hs
  · rename_i e1 e2 e; subst e
    simp [regB, keyB] at hs
    refine (do_3 B w px tv (nxt x) m a b c hf1 h hB (hr b).1 (by omega) (by omega) (by omega) (by omega)).mono fun e w' hd => hd.congr ?_
    simp [stp, nxt]
  split at hs
  · rename_i e1 e2 e3 e; subst e
    simp [keyB] at hs
    refine (do_4 B w px tv (nxt x) m a b c hf1 h hB (by omega) (by omega)).mono fun e w' hd => hd.congr ?_
    simp [stp, nxt]
  split at hs
  · rename_i e1 e2 e3 e4 e
    simp [regB, keyB] at hs
    rcases e with rfl | rfl
    · refine (do_5 B w px tv (nxt x) m a b c hf1 h hB (by omega) (by omega) (by omega) (by omega) (by omega) hsee).mono fun e w' hd => ?_
      have : numE ⟨5, a, b, c⟩ (nxt x) (see m (nxt x).puts) = sumK (see m x.puts) b (c - b + 1).toNat := rfl
      rw [this] at hd
      have e2 : stp ⟨5, a, b, c⟩ m x = bec { nxt x with read := markK x.puts x.read b (c - b + 1).toNat } a (sumK (see m x.puts) b (c - b + 1).toNat) := by simp [stp, nxt]
      rw [e2]
      refine hd.like ?_ ?_ ?_ ?_ ?_ ?_ <;> (unfold bec; split <;> rfl)
    · refine (do_6 B w px tv (nxt x) m a b c hf1 h hB (by omega) (by omega) (by omega) (by omega) (by omega)).mono fun e w' hd => ?_
      have : numE ⟨6, a, b, c⟩ (nxt x) (see m (nxt x).puts) = cntK (see m x.puts) b (c - b + 1).toNat := rfl
      rw [this] at hd
      have e2 : stp ⟨6, a, b, c⟩ m x = bec { nxt x with read := markK x.puts x.read b (c - b + 1).toNat } a (cntK (see m x.puts) b (c - b + 1).toNat) := by simp [stp, nxt]
      rw [e2]
      refine hd.like ?_ ?_ ?_ ?_ ?_ ?_ <;> (unfold bec; split <;> rfl)
  split at hs
  · rename_i e1 e2 e3 e4 e5 e
    simp [regB] at hs
    rcases e with rfl | rfl
    · refine (do_7 B w px tv (nxt x) m a b c hf1 h hB (by omega) (by omega) (by omega) (by omega) hok1).mono fun e w' hd => hd.congr ?_
      have : numE ⟨7, a, b, c⟩ (nxt x) (see m (nxt x).puts) = reg (nxt x) a + reg (nxt x) b := rfl
      rw [this]
      simp [stp, nxt]
    · refine (do_8 B w px tv (nxt x) m a b c hf1 h hB (by omega) (by omega) (by omega) (by omega) hok1).mono fun e w' hd => hd.congr ?_
      have : numE ⟨8, a, b, c⟩ (nxt x) (see m (nxt x).puts) = reg (nxt x) a - reg (nxt x) b := rfl
      rw [this]
      simp [stp, nxt]
  split at hs
  · rename_i e1 e2 e3 e4 e5 e7 e; subst e
    simp [regB, inB] at hs
    by_cases h0 : reg (nxt x) a = 0
    · refine (do_9y B w px tv (nxt x) m a b c hf1 h hB h0 (by omega) (by omega) (by omega) (by omega) (by omega)).mono fun e w' hd => hd.congr ?_
      have h0' : reg { x with done := x.done + 1, pc := x.pc + 1 } a = 0 := h0
      simp [stp, nxt, h0']
    · refine (do_9n B w px tv (nxt x) m a b c hf1 h hB h0 (by omega) (by omega)).mono fun e w' hd => hd.congr ?_
      have h0' : ¬ reg { x with done := x.done + 1, pc := x.pc + 1 } a = 0 := h0
      simp [stp, nxt, h0']
  split at hs
  · rename_i e1 e2 e3 e4 e5 e7 e9 e; subst e
    simp [regB, inB] at hs
    by_cases h0 : reg (nxt x) a = 0
    · refine (do_10n B w px tv (nxt x) m a b c hf1 h hB h0 (by omega) (by omega)).mono fun e w' hd => hd.congr ?_
      have h0' : reg { x with done := x.done + 1, pc := x.pc + 1 } a = 0 := h0
      simp [stp, nxt, h0']
    · refine (do_10y B w px tv (nxt x) m a b c hf1 h hB h0 (by omega) (by omega) (by omega) (by omega) (by omega)).mono fun e w' hd => hd.congr ?_
      have h1 := (hr a).1
      have h0' : 0 < reg { x with done := x.done + 1, pc := x.pc + 1 } a := by have : reg (nxt x) a ≠ 0 := h0; show 0 < reg (nxt x) a; omega
      simp [stp, nxt, h0']
  split at hs
  · rename_i e1 e2 e3 e4 e5 e7 e9 e10 e; subst e
    simp [regB] at hs
    refine (do_11 B w px tv (nxt x) m a b c hf1 h hB htl (by omega) (by omega)).mono fun e w' hd => hd.congr ?_
    simp [stp, nxt]
  split at hs
  · rename_i e1 e2 e3 e4 e5 e7 e9 e10 e11 e; subst e
    refine (do_12 B w px tv (nxt x) m a b c h hB).mono fun e w' hd => hd.congr ?_
    simp [stp, nxt]
  · cases hs

end Go.Proofs.Ytobkefggfghhfaa

/- The program's own Next. -/
namespace Go.Proofs.Ytobkefggfghhfaa
open Go.RowKit

/-- how far a run has come behind i calls of Next -/
def Going (l : List St) (m : Int → Int) (fn B : Nat) (w0 : World) (px i : Nat) (w' : World) : Prop :=
  ∃ tv st x, Eng B w' px tv st x (see m x.puts) ∧ Below B w0 w' ∧
    ((st = 2 ∧ x.fin = 0 ∧ x.done = i ∧ i ≤ fn ∧ MoOk l.length x ∧ play l m (fn - i) x = play l m fn mo0) ∨ (st ≠ 2 ∧ st = endState l (play l m fn mo0) ∧ x = play l m fn mo0))

def Nexted (l : List St) (m : Int → Int) (fn B : Nat) (w0 : World) (px i : Nat) (e : Ending) (w' : World) : Prop := e = .returned (.tuple #[]) ∧ Going l m fn B w0 px i w'

set_option maxRecDepth 100000 in
set_option maxHeartbeats 1000000 in
theorem next_ended (B : Nat) (w w0 : World) (px fn i : Nat) (tv sv : Value) (st : Int) (x : Mo) (l : List St) (m : Int → Int) (h : Eng B w px tv st x (see m x.puts)) (hb : Below B w0 w) (hst : ¬ st = 2) (he : st = endState l (play l m fn mo0)) (hx : x = play l m fn mo0) :
    Calls Try.prog 53 #[.pointer (some ⟨px, 0, none⟩), sv, .int .i64 fn] w fun e w' => Nexted l m fn B w0 px i e w' := by
  have HG : Hid (Going l m fn B w0 px i w) := ⟨tv, st, x, h, hb, Or.inr ⟨hst, he, hx⟩⟩
  have c0 := h.cSt
  clear h hb he hx
  go_enter Try.func53, Try.ntmps53
  go_wp2
  refine bodyPost_ret (results_none rfl _ _ _) rfl ?_
  exact ⟨rfl, HG.out⟩

set_option maxRecDepth 100000 in
set_option maxHeartbeats 1000000 in
theorem next_going (B : Nat) (w w0 : World) (px fn i : Nat) (tv : Value) (ao : Option Addr) (cap : Nat) (x : Mo) (l : List St) (m : Int → Int) (hB : B ≤ w.heap.size) (hj : jobB l = true) (hs : l = [] ∨ ∃ b off, ao = some ⟨b, off, none⟩ ∧ b < B ∧ StepsAt w0 b off l) (hm : ∀ k, m k ≤ 9999) (hfn : fn ≤ 200)
    (h : Eng B w px tv 2 x (see m x.puts)) (hb : Below B w0 w) (hfin : x.fin = 0) (hdone : x.done = i) (hi : i ≤ fn) (hok : MoOk l.length x) (hplay : play l m (fn - i) x = play l m fn mo0) :
    Calls Try.prog 53 #[.pointer (some ⟨px, 0, none⟩), .slice ao l.length cap, .int .i64 fn] w fun e w' => Nexted l m fn B w0 px (i + 1) e w' := by
  have HJ : Hid (jobB l = true) := hj
  have HS : Hid (l = [] ∨ ∃ b off, ao = some ⟨b, off, none⟩ ∧ b < B ∧ StepsAt w0 b off l) := hs
  have HM : Hid (∀ k, m k ≤ 9999) := hm
  have H : Hid (Eng B w px tv 2 x (see m x.puts)) := h
  have HB : Hid (Below B w0 w) := hb
  have HK : Hid (MoOk l.length x) := hok
  have HP : Hid (play l m (fn - i) x = play l m fn mo0) := hplay
  have hlen := (jobB_at hj).1
  have hpl := hok.pc
  obtain ⟨ln, hln⟩ : ∃ ln, ln = l.length := ⟨_, rfl⟩
  have HN : Hid (ln = l.length) := hln
  rw [← hln] at hlen hpl ⊢
  have c0 := h.cSt
  have c1 := h.cPc
  have c2 := h.cDone
  have f0 := h.fPx 0
  have f1 := h.fPx 1
  have f2 := h.fPx 2
  have hlt := h.lt
  clear hj hs hm h hb hok hplay hln
  have m0 : ¬ ((x.pc : Int) < 0) := by omega
  by_cases hpc : x.pc < ln
  · by_cases hz : i = fn
    · have m1 : ¬ ((ln : Int) ≤ (x.pc : Int)) := by omega
      have m2 : ((fn : Int) ≤ (x.done : Int)) := by omega
      go_enter Try.func53, Try.ntmps53
      go_wp2
      refine bodyPost_ret (results_none rfl _ _ _) rfl ?_
      have e0 : x = play l m fn mo0 := by rw [← HP.out, hz, Nat.sub_self]; rfl
      refine ⟨rfl, tv, 5, x, H.out.setSt 5, HB.out.setCell (p := ⟨px, _, none⟩) H.out.bpx _, Or.inr ⟨by decide, ?_, e0⟩⟩
      rw [← e0, endState, if_pos hfin, if_neg (by have := HN.out; omega)]
    · have hpc' : x.pc < l.length := by rw [← HN.out]; exact hpc
      have hao : ∃ b off, ao = some ⟨b, off, none⟩ ∧ b < B ∧ StepsAt w0 b off l := by
        rcases HS.out with h | h
        · subst h; simp at hpc'
        · exact h
      clear HS
      obtain ⟨b, off, rfl, hb, hst⟩ := hao
      obtain ⟨s0, s1, s2, s3⟩ := (hst.below HB.out hb) x.pc hpc'
      clear hst
      obtain ⟨s, hs'⟩ : ∃ s, s = l.getD x.pc stz := ⟨_, rfl⟩
      rw [← hs'] at s0 s1 s2 s3
      have HSt : Hid (s = l.getD x.pc stz) := hs'
      have hbne : ¬ b = px := by have := H.out.bpx; omega
      have hbw : b < w.heap.size := by omega
      clear hs'
      have hstB : Hid (stB s x.pc l.length = true) := by rw [HSt.out]; exact (jobB_at HJ.out).2 _ hpc'
      have m1 : ¬ ((ln : Int) ≤ (x.pc : Int)) := by omega
      have m2 : ¬ ((fn : Int) ≤ (x.done : Int)) := by omega
      have m3 : (x.pc : Int) < (ln : Int) := by omega
      have m4 : (0 : Int) ≤ (x.pc : Int) := by omega
      have w1 : IntKind.i64.wrap ((x.pc : Int) + 1) = (x.pc : Int) + 1 := by rw [IntKind.wrap_i64]; omega
      have w2 : IntKind.i64.wrap ((x.done : Int) + 1) = (x.done : Int) + 1 := by rw [IntKind.wrap_i64]; omega
      go_enter Try.func53, Try.ntmps53
      go_wp2_with fail
      have hE : Eng B (((w.setCell ⟨px, 2, none⟩ (.int .i64 ((i : Int) + 1))).setCell ⟨px, 1, none⟩ (.int .i64 ((x.pc : Int) + 1))).alloc (.cells #[.int .i64 s.op, .int .i64 s.a, .int .i64 s.b, .int .i64 s.c] 36)) px tv 2 (nxt x) (see m x.puts) := by
        have := ((H.out.setDone (i + 1)).setPc (x.pc + 1)).alloc (.cells #[.int .i64 s.op, .int .i64 s.a, .int .i64 s.b, .int .i64 s.c] 36)
        rw [show ((i + 1 : Nat) : Int) = (i : Int) + 1 by omega, show ((x.pc + 1 : Nat) : Int) = (x.pc : Int) + 1 by omega] at this
        exact this.congr (by simp [nxt, hdone]) rfl rfl
      have hb1 : Below B w0 (((w.setCell ⟨px, 2, none⟩ (.int .i64 ((i : Int) + 1))).setCell ⟨px, 1, none⟩ (.int .i64 ((x.pc : Int) + 1))).alloc (.cells #[.int .i64 s.op, .int .i64 s.a, .int .i64 s.b, .int .i64 s.c] 36)) :=
        ((HB.out.setCell (p := ⟨px, _, none⟩) H.out.bpx _).setCell (p := ⟨px, _, none⟩) H.out.bpx _).alloc (by simpa using hB) _
      refine (do_any B _ px tv x m s l.length (by rw [← HN.out]; exact hlen) HK.out hpc' hstB.out HM.out hfin (by omega) hE (by simp; omega)).mono ?_
      rintro e W2 ⟨rfl, tv', hE2, hb2⟩
      have HG : Hid (Going l m fn B w0 px (i + 1) W2) := by
        refine ⟨tv', _, _, hE2, hb1.trans hb2, ?_⟩
        have hok2 := stp_ok HK.out hpc' HM.out hstB.out
        have hpl2 : play l m (fn - (i + 1)) (stp s m x) = play l m fn mo0 := by
          rw [← HP.out, show fn - i = (fn - (i + 1)) + 1 by omega, play_go ⟨hfin, hpc'⟩, HSt.out]
        by_cases hf2 : (stp s m x).fin = 0
        · exact Or.inl ⟨by rw [stOf, if_pos hf2], hf2, by rw [stp_done, hdone], by omega, hok2, hpl2⟩
        · have e0 : stp s m x = play l m fn mo0 := by rw [← hpl2, play_end (fun h => hf2 h.1)]
          have hst2 : stOf (stp s m x) = endState l (play l m fn mo0) := by rw [stOf, if_neg hf2, ← e0, endState, if_neg hf2]
          refine Or.inr ⟨?_, hst2, e0⟩
          rw [stOf, if_neg hf2]
          rcases stp_fin s m x with h | h | h
          · rw [h] at hf2; exact absurd hfin hf2
          · rw [h]; decide
          · rw [h]; decide
      clear hE hb1 hE2 hb2
      go_wp2
      go_end0
      exact ⟨rfl, HG.out⟩
  · have m1 : ((ln : Int) ≤ (x.pc : Int)) := by omega
    go_enter Try.func53, Try.ntmps53
    go_wp2
    refine bodyPost_ret (results_none rfl _ _ _) rfl ?_
    have e0 : x = play l m fn mo0 := by rw [← HP.out, play_end (fun h => by have := HN.out; omega)]
    refine ⟨rfl, tv, 3, x, H.out.setSt 3, HB.out.setCell (p := ⟨px, _, none⟩) H.out.bpx _, Or.inr ⟨by decide, ?_, e0⟩⟩
    rw [← e0, endState, if_pos hfin, if_pos (by have := HN.out; omega)]

theorem next_any (B : Nat) (w w0 : World) (px fn i : Nat) (sv : Value) (l : List St) (m : Int → Int) (hB : B ≤ w.heap.size) (hj : jobB l = true) (ao : Option Addr) (cap : Nat) (hsv : sv = .slice ao l.length cap) (hs : l = [] ∨ ∃ b off, ao = some ⟨b, off, none⟩ ∧ b < B ∧ StepsAt w0 b off l) (hm : ∀ k, m k ≤ 9999) (hfn : fn ≤ 200)
    (h : Going l m fn B w0 px i w) :
    Calls Try.prog 53 #[.pointer (some ⟨px, 0, none⟩), sv, .int .i64 fn] w fun e w' => Nexted l m fn B w0 px (i + 1) e w' := by
  subst hsv
  obtain ⟨tv, st, x, hE, hb, ⟨rfl, h1, h2, h3, h4, h5⟩ | ⟨h1, h2, h3⟩⟩ := h
  · exact next_going B w w0 px fn i tv ao cap x l m hB hj hs hm hfn hE hb h1 h2 h3 h4 h5
  · exact next_ended B w w0 px fn (i + 1) tv _ st x l m hE hb h1 h2 h3

end Go.Proofs.Ytobkefggfghhfaa

/- The program's own Pairs. -/
namespace Go.Proofs.Ytobkefggfghhfaa
open Go.RowKit

set_option maxRecDepth 100000 in
set_option maxHeartbeats 1000000 in
theorem pairsE_any (b o : Nat) (f : Int → Int) (w : World) (hb : b < w.heap.size) (h : MapAt w b o f) :
    Calls Try.prog 41 #[.pointer (some ⟨b, o, none⟩)] w fun e w' => Aftered f w e w' := by
  have HM : Hid (MapAt w b o f) := h
  clear h
  obtain ⟨i0, hi, hz0, hz1, hz2⟩ := info_parts Try.infoPair
  go_enter Try.func41, Try.ntmps41
  go_wp2
  go_loopw [3, 4] (fun out k wr => ∃ j : Nat, j ≤ 16 ∧ k = .int .i64 j ∧ AfterRel f w j out wr) (fun _ k _ => 16 - (intOf k).toNat)
  case atStart =>
    refine ⟨0, Nat.zero_le _, rfl, ?_, ?_⟩
    · exact ⟨rfl, Or.inr ⟨w.heap.size, 0, #[], rfl, Nat.le_refl _, heap_alloc_new _ _, Nat.le_refl _, Nat.zero_le _, rfl, rfl⟩⟩
    · exact (Below.refl _ _).alloc (Nat.le_refl _) _
  case round =>
    obtain ⟨j, hj, rfl, hrel⟩ := hrel
    obtain ⟨hown, hbel⟩ := hrel
    have HO : Hid (_root_.Go.World.ownsRow _ w.heap.size 38 2 _ (accL f j).length (prCells (accL f j))) := hown
    have HBl : Hid (Below w.heap.size w wr) := hbel
    clear hown hbel
    by_cases hlt : j < 16
    · have c0 := (HBl.out.cell (p := ⟨b, o + j, none⟩) hb).trans (HM.out.has (k := j) hlt)
      have c1 := (HBl.out.cell (p := ⟨b, o + 16 + j, none⟩) hb).trans (HM.out.val (k := j) hlt)
      have hal := accL_len f j
      have hsize := HBl.out.size
      have HAc : Hid (accL f (j + 1) = accL f j ++ if 0 ≤ f j then [((j : Int), f j)] else []) := accL_succ f j
      have m1 : (j : Int) < 16 := by omega
      by_cases hz : 0 ≤ f j
      · rw [decide_eq_true hz] at c0
        have e1 : pos (f j) = f j := by simp [pos, hz]
        rw [e1] at c1
        obtain ⟨sv, hsv⟩ : ∃ sv, sv = f j := ⟨_, rfl⟩
        rw [← hsv] at c1 HAc hz
        clear hsv e1
        go_wp2_with (at_builtin; refine wpList_append_lies _ (by rfl) (.tmp 16) (.tmp 25) 24 (by rfl) w.heap.size 38 i0 _ 2 16 Try.underlying24 hi hz0 hz1 hz2 (by rfl) (by decide) _ _ _ (by rfl) (HO.out.alloc _) ⟨wr.heap.size, 0, none⟩ 1 1 [.int .i64 (j : Int), .int .i64 sv] (by rfl) (by rfl) ?_ ?_ (by decide) ?_ ?_ ?_ _ (by rfl) ?_)
        · exact World.news_of_block (heap_alloc_new _ _)
        · intro u hu; simp at hu; rcases hu with rfl | rfl <;> rfl
        · unfold maxLen; omega
        · omega
        · simp; omega
        · intro g1 cap1 w2 hown2 hgrow2 hat hlt2
          have HO2 : Hid (w2.ownsRow w.heap.size 38 2 (.slice (some ⟨g1, 0, none⟩) ((accL f j).length + 1) cap1) (accL f (j + 1)).length (prCells (accL f (j + 1)))) := by
            rw [HAc.out, if_pos hz, prCells_append, List.length_append]
            exact hown2
          have HB2 : Hid (Below w.heap.size w w2) := (HBl.out.alloc hsize _).grown hgrow2 (by simp; omega) (fun k hk => owns_ge HO.out hk)
          clear hown2 hgrow2 hat hlt2
          go_wp2
          go_roundw
          case rel => exact ⟨j + 1, by omega, by go_num, HO2.out, HB2.out⟩
          case measure => simp [intOf]; omega
      · rw [decide_eq_false hz] at c0
        go_wp2
        go_roundw
        case rel => exact ⟨j + 1, by omega, by go_num, by rw [HAc.out, if_neg hz, List.append_nil]; exact HO.out, HBl.out⟩
        case measure => simp [intOf]; omega
    · obtain rfl : j = 16 := by omega
      go_wp2
      go_ret
      exact ⟨_, rfl, HO.out, HBl.out⟩

end Go.Proofs.Ytobkefggfghhfaa

/- The program's own Begin, runToEnd. -/
namespace Go.Proofs.Ytobkefggfghhfaa
open Go.RowKit

theorem wBdR (d : Option Tmp) (x : Array (Nat × Operand)) (ty : TypeId) (ps : String) (af : Array Edge) (gd : Option (Nat × Bool)) (a : Act) (w : World) (K : Act → World → Prop) (Q : Exit → Act → World → Prop) :
    Oper.wp Try.prog ⟨d, .build 74 x, ty, ps, af, gd⟩ a w K Q = WOp ⟨d, .build 74 x, ty, ps, af, gd⟩ a w K Q := wop_eq _ _ _ _ _
attribute [local go_sem ↓] wStM wStR wLdM wLdR wBdR

theorem wp_bdN {op : Oper} {a : Act} {w : World} {K : Act → World → Prop} {Q : Exit → Act → World → Prop} {T : TypeId} {i j : Nat} {x y : Operand} {u v r : Value} (ho : op.op = .build T #[(i, x), (j, y)]) (hx : a.eval x = u) (hy : a.eval y = v)
    (hr : (Instr.build T #[(i, u), (j, v)]).run Try.prog w = .ok r w) (h : K (a.put op.dst r) w) : WOp op a w K Q := by
  constructor
  unfold Oper.wp execOp
  simp only [ho, List.map_toArray, List.map_cons, List.map_nil, hx, hy, hr, Sem.run_bind, Sem.run_pure, Result.andThen_ok]
  exact h

theorem build_run (f : Int → Int) (w : World) : (Instr.build 74 #[(0, .int .i64 2), (4, .agg (mapCells f).toArray)]).run Try.prog w = .ok (.agg (engCells 2 mo0 f (.slice none 0 0)).toArray) w := by kernel_rfl

theorem engCells_one (st : Int) (x : Mo) (f : Int → Int) {tv : Value} (ht : ∃ ao n cap, tv = .slice ao n cap) : (engCells st x f tv).toArray.all (·.oneCell') = true := by
  refine all_oneCell_toArray (fun v hv => ?_)
  rcases List.mem_append.1 hv with h | h
  · rcases List.mem_append.1 h with h | h
    · simp at h
      rcases h with rfl | rfl | rfl | ⟨n, _, rfl⟩ <;> rfl
    · exact (Array.all_eq_true_iff_forall_mem.1 (mapCells_one f)) v (by simpa using h)
  · obtain ⟨ao, n, cap, rfl⟩ := ht
    simp at h; subst h; rfl
theorem engCells_len {st : Int} {x : Mo} {f : Int → Int} {tv : Value} (h : x.regs.length = 4) : (engCells st x f tv).length = 40 := by simp [engCells, length_mapCells, h]

/-- a run's own block, read whole -/
theorem run_load {w : World} {b : Nat} {st : Int} {x : Mo} {f : Int → Int} {tv : Value} (h : w.heap[b]? = some (.cells (engCells st x f tv).toArray 74 (0, 0))) (hl : x.regs.length = 4) : w.rangeAt b 0 (engCells st x f tv) ∧ (loadVar 74 ⟨b, 0, none⟩).run Try.prog w = .ok (.agg (engCells st x f tv).toArray) w := by
  have hr : w.rangeAt b 0 (engCells st x f tv) := blk_rangeAt (pre := []) (post := []) (by simpa using h) rfl
  exact ⟨hr, run_loadVar_mid w b 0 _ _ _ hr Try.underlying74 rfl (by rw [Try.sizeRun, engCells_len hl])⟩

theorem runZ : (#[.int .i64 0, .int .i64 0, .int .i64 0, .int .i64 0, .int .i64 0, .int .i64 0, .int .i64 0, .bool false, .bool false, .bool false, .bool false, .bool false, .bool false, .bool false, .bool false, .bool false, .bool false, .bool false, .bool false, .bool false, .bool false, .bool false, .bool false, .int .i64 0, .int .i64 0, .int .i64 0, .int .i64 0, .int .i64 0, .int .i64 0, .int .i64 0, .int .i64 0, .int .i64 0, .int .i64 0, .int .i64 0, .int .i64 0, .int .i64 0, .int .i64 0, .int .i64 0, .int .i64 0, .slice none 0 0] : Array Value) = (engCells 0 mo0 (fun _ => -1) (.slice none 0 0)).toArray := by rfl

set_option maxRecDepth 100000 in
set_option maxHeartbeats 400000 in
theorem begin_any (f : Int → Int) (w : World) :
    Calls Try.prog 52 #[.agg (mapCells f).toArray] w fun e w' => e = .returned (.agg (engCells 2 mo0 f (.slice none 0 0)).toArray) ∧ Below w.heap.size w w' := by
  obtain ⟨cs, hcs⟩ : ∃ cs, cs = (mapCells f).toArray := ⟨_, rfl⟩
  have HC : Hid (cs = (mapCells f).toArray) := hcs
  obtain ⟨rs, hrs⟩ : ∃ rs, rs = (engCells 2 mo0 f (.slice none 0 0)).toArray := ⟨_, rfl⟩
  have HR : Hid (rs = (engCells 2 mo0 f (.slice none 0 0)).toArray) := hrs
  rw [← hcs, ← hrs]
  clear hcs hrs
  go_enter Try.func52, Try.ntmps52
  go_wp2
  refine wp_ldN (T := 68) w.heap.size 0 (by rfl) (by rfl) (cs := mapCells f) (by exact MapBlk.at (by rw [HC.out]; exact new0E _ _ _)) (by exact Try.underlying68) (by rfl) (by rw [Try.sizeMap, length_mapCells]) ?_
  rw [← HC.out]
  go_wp2
  refine wp_bdN (T := 74) (r := .agg rs) (by rfl) (by rfl) (by rfl) (by rw [HC.out, HR.out]; exact build_run f _) ?_
  go_wp2
  refine wp_stN (T := 74) (w.heap.size + 1) (by rfl) (by rfl) (by rfl) (by exact new1E _ _ _) (by rw [HR.out]; exact Try.sizeRun) (by rw [HR.out]; rfl) (by rw [HR.out]; exact engCells_one _ _ _ ⟨_, _, _, rfl⟩) ?_
  rintro W hW hF
  have HW : Hid (W.heap[w.heap.size + 1]? = some (.cells (engCells 2 mo0 f (.slice none 0 0)).toArray 74 (0, 0)) ∧ Below w.heap.size w W) := ⟨by rw [← HR.out]; exact hW, (((Below.refl _ w).alloc (Nat.le_refl _) _).alloc (by simp) _).trans (hF.below (by omega) (by simp; omega))⟩
  clear hW hF
  go_wp2
  refine bodyPost_ret (results_cell1 (by rfl) (by rfl) (run_load HW.out.1 rfl).2) rfl ⟨?_, HW.out.2⟩
  rw [HR.out]

/-- what runToEnd hands back -/
def RunEnded (l : List St) (m : Int → Int) (fn : Nat) (w : World) (e : Ending) (w' : World) : Prop := ∃ tv, e = .returned (.agg (engCells (endState l (play l m fn mo0)) (play l m fn mo0) (see m (play l m fn mo0).puts) tv).toArray) ∧
  (play l m fn mo0).regs.length = 4 ∧ w'.ownsRow w.heap.size 3 1 tv (play l m fn mo0).told.length ((play l m fn mo0).told.map (Value.int .i64)) ∧ Below w.heap.size w w'

set_option maxRecDepth 100000 in
set_option maxHeartbeats 1000000 in
theorem end_any (ao : Option Addr) (cap : Nat) (l : List St) (m : Int → Int) (fn : Nat) (w : World) (hj : jobB l = true) (hs : l = [] ∨ ∃ b off, ao = some ⟨b, off, none⟩ ∧ b < w.heap.size ∧ StepsAt w b off l) (hm : ∀ k, m k ≤ 9999) (hfn : fn ≤ 200) :
    Calls Try.prog 37 #[.slice ao l.length cap, .agg (mapCells m).toArray, .int .i64 fn] w fun e w' => RunEnded l m fn w e w' := by
  have HJ : Hid (jobB l = true) := hj
  have HS : Hid (l = [] ∨ ∃ b off, ao = some ⟨b, off, none⟩ ∧ b < w.heap.size ∧ StepsAt w b off l) := hs
  have HM : Hid (∀ k, m k ≤ 9999) := hm
  obtain ⟨sv, hsv⟩ : ∃ sv, sv = Value.slice ao l.length cap := ⟨_, rfl⟩
  have HV : Hid (sv = Value.slice ao l.length cap) := hsv
  obtain ⟨cs, hcs⟩ : ∃ cs, cs = (mapCells m).toArray := ⟨_, rfl⟩
  have HC : Hid (cs = (mapCells m).toArray) := hcs
  rw [← hcs, ← hsv]
  clear hcs hsv hj hs hm
  go_enter Try.func37, Try.ntmps37
  go_wp2
  refine wp_ldN (T := 68) w.heap.size 0 (by rfl) (by rfl) (cs := mapCells m) (by exact MapBlk.at (by rw [HC.out]; exact new0E _ _ _)) (by exact Try.underlying68) (by rfl) (by rw [Try.sizeMap, length_mapCells]) ?_
  rw [← HC.out]
  go_wp2_with fail
  rw [HC.out]
  refine (begin_any m _).mono ?_
  rintro e W1 ⟨rfl, hb1⟩
  have HW1 : Hid (W1.heap[w.heap.size + 1]? = some (.cells (engCells 0 mo0 (fun _ => -1) (.slice none 0 0)).toArray 74 (0, 0)) ∧ Below w.heap.size w W1) :=
    ⟨(hb1.block _ (by simp)).trans ((new1E _ _ _).trans (by rw [runZ])), (((Below.refl _ w).alloc (Nat.le_refl _) _).alloc (by simp) _).trans (hb1.mono (by simp; omega))⟩
  clear hb1
  obtain ⟨rs, hrs⟩ : ∃ rs, rs = (engCells 2 mo0 m (.slice none 0 0)).toArray := ⟨_, rfl⟩
  have HR : Hid (rs = (engCells 2 mo0 m (.slice none 0 0)).toArray) := hrs
  rw [← hrs, ← HC.out]
  clear hrs
  go_wp2
  refine wp_stN (T := 74) W1.heap.size (by rfl) (by rfl) (by rfl) (by exact heap_alloc_new _ _) (by rw [HR.out]; exact Try.sizeRun) (by rw [HR.out]; rfl) (by rw [HR.out]; exact engCells_one _ _ _ ⟨_, _, _, rfl⟩) ?_
  rintro W3 hW3 hF3
  have HG : Hid (Going l m fn W1.heap.size W1 W1.heap.size 0 W3) := by
    refine ⟨.slice none 0 0, 2, mo0, ⟨Nat.le_refl _, by rw [show see m mo0.puts = m from rfl, ← HR.out]; exact hW3, rfl, World.ownsRow_nil _ _ _ _⟩, ((Below.refl _ W1).alloc (Nat.le_refl _) _).trans (hF3.below (by omega) (by simp)), Or.inl ⟨rfl, rfl, rfl, Nat.zero_le _, mo0_ok _, rfl⟩⟩
  clear hW3 hF3
  go_wp2
  go_loopw [8] (fun i wr => ∃ j : Nat, j ≤ 201 ∧ i = .int .i64 j ∧ Going l m fn W1.heap.size W1 W1.heap.size j wr) (fun i _ => 201 - (intOf i).toNat)
  case atStart => exact ⟨0, Nat.zero_le _, rfl, HG.out⟩
  case round =>
    obtain ⟨j, hj, rfl, hgo⟩ := hrel
    have HGo : Hid (Going l m fn W1.heap.size W1 W1.heap.size j _) := hgo
    clear hgo HG
    by_cases hlt : j < 201
    · have m1 : (j : Int) ≤ 200 := by omega
      have hsz : W1.heap.size ≤ wr.heap.size := by obtain ⟨_, _, _, _, hb, _⟩ := HGo.out; exact hb.size
      have HS1 : Hid (l = [] ∨ ∃ b off, ao = some ⟨b, off, none⟩ ∧ b < W1.heap.size ∧ StepsAt W1 b off l) := by
        rcases HS.out with h | ⟨b, off, h1, h2, h3⟩
        · exact Or.inl h
        · exact Or.inr ⟨b, off, h1, Nat.lt_of_lt_of_le h2 HW1.out.2.size, h3.below HW1.out.2 h2⟩
      go_wp2_with (go_at_call 53; refine (next_any W1.heap.size _ W1 W1.heap.size fn j sv l m hsz HJ.out ao cap HV.out HS1.out HM.out hfn HGo.out).mono ?_; rintro e W4 ⟨rfl, hgo⟩; have HG4 : Hid (Going l m fn W1.heap.size W1 W1.heap.size (j + 1) W4) := hgo; clear hgo)
      go_roundw
      case rel => exact ⟨j + 1, by omega, by go_num, HG4.out⟩
      case measure => simp [intOf]; omega
    · have m1 : ¬ ((j : Int) ≤ 200) := by omega
      obtain ⟨tv, st, x, hE, hb, ⟨_, _, h2, h3, _⟩ | ⟨_, h2, h3⟩⟩ := HGo.out
      · omega
      subst h2
      subst h3
      have HE : Hid (Eng W1.heap.size wr W1.heap.size tv (endState l (play l m fn mo0)) (play l m fn mo0) (see m (play l m fn mo0).puts)) := hE
      have HB : Hid (Below W1.heap.size W1 wr) := hb
      have HW4 : Hid (wr.heap[w.heap.size + 1]? = some (.cells (engCells 0 mo0 (fun _ => -1) (.slice none 0 0)).toArray 74 (0, 0))) := (hb.block _ (blk_lt HW1.out.1)).trans HW1.out.1
      obtain ⟨qs, hqs⟩ : ∃ qs, qs = engCells (endState l (play l m fn mo0)) (play l m fn mo0) (see m (play l m fn mo0).puts) tv := ⟨_, rfl⟩
      have HQ : Hid (qs = engCells (endState l (play l m fn mo0)) (play l m fn mo0) (see m (play l m fn mo0).puts) tv) := hqs
      have HRg : Hid (wr.rangeAt W1.heap.size 0 qs ∧ qs.length = 40) := by rw [hqs]; exact ⟨(run_load hE.blk hE.rlen).1, engCells_len hE.rlen⟩
      clear hE hb hqs HGo
      go_wp2
      refine wp_ldN (T := 74) W1.heap.size 0 (by rfl) (by rfl) (by exact HRg.out.1) (by exact Try.underlying74) (by rfl) (by rw [Try.sizeRun, HRg.out.2]) ?_
      go_wp2
      refine wp_stN (T := 74) (w.heap.size + 1) (by rfl) (by rfl) (by rfl) (by exact HW4.out) (by rw [Try.sizeRun]; simp [HRg.out.2]) (by simp [HRg.out.2, engCells_len (x := mo0) rfl]) (by rw [HQ.out]; exact engCells_one _ _ _ (by obtain ⟨ao, cap, h⟩ := owns_form HE.out.told; exact ⟨_, _, _, h⟩)) ?_
      rintro W5 hW5 hF5
      have HF : Hid (W5.heap[w.heap.size + 1]? = some (.cells qs.toArray 74 (0, 0)) ∧ Fr (fun k => k = w.heap.size + 1) wr W5) := ⟨hW5, hF5⟩
      clear hW5 hF5
      go_wp2
      have hl4 := HE.out.rlen
      have hld : (loadVar 74 ⟨w.heap.size + 1, 0, none⟩).run Try.prog W5 = .ok (.agg qs.toArray) W5 := by
        have := HF.out.1
        rw [HQ.out] at this ⊢
        exact (run_load this hl4).2
      have hlt1 := blk_lt HW1.out.1
      refine bodyPost_ret (results_cell1 (by rfl) (by rfl) hld) rfl ⟨tv, by rw [HQ.out], hl4, ?_, ?_⟩
      · exact owns_base (owns_fr HE.out.told HF.out.2 (fun k hk hs => by have := owns_ge HE.out.told hk; omega)) (by omega)
      · exact (HW1.out.2.trans (HB.out.mono HW1.out.2.size)).trans (HF.out.2.below (by omega) (by have := HW1.out.2.size; have := HB.out.size; omega))

end Go.Proofs.Ytobkefggfghhfaa

/- The program's own State, Told, View. -/
namespace Go.Proofs.Ytobkefggfghhfaa
open Go.RowKit
attribute [local go_sem ↓] wStM wStR wLdM wLdR

set_option maxRecDepth 100000 in
set_option maxHeartbeats 400000 in
theorem state_any (B : Nat) (w : World) (px : Nat) (tv : Value) (st : Int) (x : Mo) (f : Int → Int) (h : Eng B w px tv st x f) :
    Calls Try.prog 38 #[.pointer (some ⟨px, 0, none⟩)] w fun e w' => e = .returned (.int .i64 st) ∧ w' = w := by
  have c0 := h.cSt
  clear h
  go_enter Try.func38, Try.ntmps38
  go_wp2
  go_ret
  exact ⟨rfl, rfl⟩

def Viewed (f : Int → Int) (w : World) (e : Ending) (w' : World) : Prop := e = .returned (.agg (mapCells f).toArray) ∧ Below w.heap.size w w'

set_option maxRecDepth 100000 in
set_option maxHeartbeats 400000 in
theorem view_any (B : Nat) (w : World) (px : Nat) (tv : Value) (st : Int) (x : Mo) (f : Int → Int) (h : Eng B w px tv st x f) :
    Calls Try.prog 40 #[.pointer (some ⟨px, 0, none⟩)] w fun e w' => Viewed f w e w' := by
  have H : Hid (Eng B w px tv st x f) := h
  clear h
  go_enter Try.func40, Try.ntmps40
  go_wp2
  refine wp_ldN (T := 68) px 7 (by rfl) (by rfl) (cs := mapCells f) (by exact (H.out.alloc _).map) (by exact Try.underlying68) (by rfl) (by rw [Try.sizeMap, length_mapCells]) ?_
  go_wp2
  refine wp_stN (T := 68) w.heap.size (by rfl) (by rfl) (by rfl) (by exact heap_alloc_new _ _) (by rw [Try.sizeMap]; simp [length_mapCells]) (by simp [length_mapCells]) (by exact mapCells_one _) ?_
  rintro W hW hF
  have HW : Hid (MapBlk W w.heap.size f ∧ Below w.heap.size w W) := ⟨hW, ((Below.refl _ w).alloc (Nat.le_refl _) _).trans (hF.below (by omega) (by simp))⟩
  clear hW hF
  go_wp2
  exact bodyPost_ret (results_cell1 (by rfl) (by rfl) HW.out.1.load) rfl ⟨rfl, HW.out.2⟩

/-- what Told hands back -/
def ToldNew (xs : List Int) (w : World) (e : Ending) (w' : World) : Prop := ∃ v, e = .returned v ∧ w'.ownsRow w.heap.size 3 1 v xs.length (xs.map (Value.int .i64)) ∧ Below w.heap.size w w'

theorem owns_emptyI (w : World) : (w.alloc (.cells #[] 3)).ownsRow w.heap.size 3 1 (.slice (some ⟨w.heap.size, 0, none⟩) 0 0) 0 [] :=
  ⟨rfl, Or.inr ⟨w.heap.size, 0, #[], rfl, Nat.le_refl _, heap_alloc_new _ _, Nat.le_refl _, Nat.zero_le _, rfl, rfl⟩⟩

set_option maxRecDepth 100000 in
set_option maxHeartbeats 400000 in
theorem told_any (B : Nat) (w : World) (px : Nat) (tv : Value) (st : Int) (x : Mo) (f : Int → Int) (h : Eng B w px tv st x f) (htl : x.told.length ≤ 1000) :
    Calls Try.prog 39 #[.pointer (some ⟨px, 0, none⟩)] w fun e w' => ToldNew x.told w e w' := by
  have c39 := h.cTold
  have hlt := h.lt
  obtain ⟨i0, hi, hz0, hz1, hz2⟩ := info_parts Try.infoInt
  have HO : Hid (w.ownsRow B 3 1 tv x.told.length (x.told.map (Value.int .i64))) := h.told
  clear h
  by_cases hn : x.told.length = 0
  · have hx : x.told = [] := List.eq_nil_of_length_eq_zero hn
    have HX : Hid (x.told = []) := hx
    have hv : ∃ ao cap, tv = .slice ao 0 cap ∧ (ao = none → cap = 0) := by
      rcases HO.out.2 with ⟨rfl, _⟩ | ⟨g, cap, cur, rfl, _⟩
      · exact ⟨none, 0, rfl, fun _ => rfl⟩
      · exact ⟨_, cap, by rw [hn], fun h => by cases h⟩
    clear hx HO
    obtain ⟨ao, cap, rfl, hao⟩ := hv
    have hend : Hid (∀ W, W = w.alloc (.cells #[] 3) → ToldNew x.told w (.returned (.slice (some ⟨w.heap.size, 0, none⟩) 0 0)) W) := fun W hW => by
      subst hW
      rw [HX.out]
      exact ⟨_, rfl, owns_emptyI w, (Below.refl _ _).alloc (Nat.le_refl _) _⟩
    cases ao with
    | none =>
      obtain rfl := hao rfl
      go_enter Try.func39, Try.ntmps39
      go_wp2_with (at_builtin; refine wpList_append_own_none (by rfl) (.tmp 3) (.tmp 7) 33 (by rfl) w.heap.size 3 i0 1 Try.underlying33 hi _ _ _ (by rfl) (owns_emptyI w) (by rfl) ?_)
      go_ret
      exact hend.out _ rfl
    | some ad =>
      go_enter Try.func39, Try.ntmps39
      go_wp2
      go_ret
      exact hend.out _ rfl
  · have hv : ∃ g cap, tv = .slice (some ⟨g, 0, none⟩) x.told.length cap ∧ g < w.heap.size := by
      rcases HO.out.2 with ⟨_, h⟩ | ⟨g, cap, cur, rfl, _, hh, _⟩
      · exact absurd h hn
      · exact ⟨g, cap, rfl, blk_lt hh⟩
    obtain ⟨g, cap, rfl, hg⟩ := hv
    obtain ⟨n, hnn⟩ : ∃ n, n = x.told.length := ⟨_, rfl⟩
    have HN : Hid (n = x.told.length) := hnn
    rw [← hnn] at c39 hn htl
    have HC : Hid (∀ j u, (x.told.map (Value.int .i64))[j]? = some u → w.cell? ⟨g, j, none⟩ = some u) := fun j u hj => by
      have hlt : j < x.told.length := by simpa using (List.getElem?_eq_some_iff.1 hj).1
      have := HO.out.cellAt j (by omega)
      rw [this]; exact hj
    clear hnn HO
    go_enter Try.func39, Try.ntmps39
    go_wp2_with (at_builtin; refine wpList_append_lies _ (by rfl) (.tmp 3) (.tmp 7) 33 (by rfl) w.heap.size 3 i0 _ 1 8 Try.underlying33 hi hz0 hz1 hz2 (by rfl) (by decide) _ _ _ (by rfl) (owns_emptyI w) ⟨g, 0, none⟩ n cap (x.told.map (Value.int .i64)) (by rfl) ?_ ?_ ?_ (by omega) ?_ ?_ ?_ _ (by rfl) ?_)
    · rw [HN.out]; simp
    · intro j u hj
      have := HC.out j u hj
      rw [Addr.add_mid, Nat.zero_add]
      exact ((Below.refl w.heap.size w).alloc (Nat.le_refl _) _).cell (p := ⟨g, j, none⟩) hg |>.trans this
    · intro u hu; obtain ⟨k, _, rfl⟩ := List.mem_map.1 hu; rfl
    · unfold maxLen; omega
    · omega
    · simp
    · intro g1 cap1 w2 hown2 hgrow2 hat hlt2
      have HT : Hid (ToldNew x.told w (.returned (.slice (some ⟨g1, 0, none⟩) (0 + n) cap1)) w2) :=
        ⟨_, rfl, by rw [← HN.out]; simpa using hown2, ((Below.refl w.heap.size w).alloc (Nat.le_refl _) _).grown hgrow2 (by simp) (fun k hk => by injection hk with hk; exact Nat.le_of_eq hk)⟩
      clear hown2 hgrow2 hat hlt2
      go_wp2
      go_ret
      simpa using HT.out

end Go.Proofs.Ytobkefggfghhfaa
