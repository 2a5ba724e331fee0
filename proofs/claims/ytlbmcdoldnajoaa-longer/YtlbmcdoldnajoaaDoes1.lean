/- The document's own 'does', operation by operation: the plain ones. -/
import Derived.Test.YtlbmcdoldnajoaaSees
import Derived.Deep.RegionHeld3
import Derived.Deep.DrawnRows
import Derived.Deep.QuietTactic
import Derived.BigQuiet
namespace Go.Proofs.Ytlbmcdoldnajoaa
open Go.RowKit
attribute [local go_sem ↓] Go.wp_at_zero Go.wp_at_succ

theorem name_wp {P : Program} {c : Code} {Q : Exit → Act → World → Prop} {a : Act} {W : World} {p : World → Prop} (h : p W) (k : ∀ W', p W' → Code.wp P c Q a W') : Code.wp P c Q a W := k W h

theorem name_calls {P : Program} {f : FuncId} {args : Array Value} {R : Ending → World → Prop} {W : World} {p : World → Prop} (h : p W) (k : ∀ W', p W' → Calls P f args W' R) : Calls P f args W R := k W h

/-- what is known behind the head of 'does': the Moment counts one step more, the step lies in a box -/
def Boxed (B : Nat) (w : World) (px rb db : Nat) (pv tv : Value) (x : Mo) (pl : List (Int × Int)) (op a b c : Int) (W : World) : Prop :=
  Mom B W px rb db pv tv { x with done := x.done + 1, pc := x.pc + 1 } pl ∧ W.heap[w.heap.size]? = some (.cells #[.int .i64 op, .int .i64 a, .int .i64 b, .int .i64 c] 40 (0, 0)) ∧ Fr (mom3 px rb db) w W ∧ B ≤ w.heap.size

theorem boxed_head {B : Nat} {w : World} {px rb db : Nat} {pv tv : Value} {x : Mo} {pl : List (Int × Int)} {op a b c : Int} (h : Mom B w px rb db pv tv x pl) :
    Boxed B w px rb db pv tv x pl op a b c (((w.setCell ⟨px, 1, none⟩ (.int .i64 ((x.done : Int) + 1))).setCell ⟨px, 0, none⟩ (.int .i64 ((x.pc : Int) + 1))).alloc (.cells #[.int .i64 op, .int .i64 a, .int .i64 b, .int .i64 c] 40)) := by
  have h1 := ((h.setDone (x.done + 1)).setPc (x.pc + 1)).alloc (.cells #[.int .i64 op, .int .i64 a, .int .i64 b, .int .i64 c] 40)
  refine ⟨by simpa using h1, ?_, (((Fr.refl _ _).setCell (p := ⟨px, _, none⟩) (fun _ => Or.inl rfl) _).setCell (p := ⟨px, _, none⟩) (fun _ => Or.inl rfl) _).alloc _, by have := blk_lt h.blk; have := h.bpx; omega⟩
  have e : w.heap.size = ((w.setCell ⟨px, 1, none⟩ (.int .i64 ((x.done : Int) + 1))).setCell ⟨px, 0, none⟩ (.int .i64 ((x.pc : Int) + 1))).heap.size := by simp
  rw [e]
  exact heap_alloc_new _ _

set_option maxRecDepth 100000 in
set_option maxHeartbeats 1000000 in
theorem does_1 (B : Nat) (w : World) (px rb db : Nat) (pv tv : Value) (x : Mo) (pl : List (Int × Int)) (a b c : Int) (mv : Value) (m : Int → Int) (hd : x.done ≤ 1000) (hpc : x.pc ≤ 1000)
    (h : Mom B w px rb db pv tv x pl) (ha : 0 ≤ a) (ha' : a ≤ 3) :
    Calls Try.prog 106 #[.pointer (some ⟨px, 0, none⟩), .agg #[.int .i64 1, .int .i64 a, .int .i64 b, .int .i64 c], mv] w fun e w' => e = .returned (.tuple #[]) ∧ Mom B w' px rb db pv tv (stp ⟨1, a, b, c⟩ m x) pl ∧ Fr (mom3 px rb db) w w' := by
  obtain ⟨n, rfl⟩ : ∃ n : Nat, a = n := ⟨a.toNat, by omega⟩
  have c0 := h.cPc
  have c1 := h.cDone
  have f0 := h.fPx 0
  have f1 := h.fPx 1
  have hlt := blk_lt h.blk
  have H : Hid (Mom B w px rb db pv tv x pl) := h
  clear h
  go_enter Try.func106, Try.ntmps106
  go_wp2
  refine name_wp (boxed_head H.out) ?_
  rintro W ⟨hM, hbox, hF, hB⟩
  clear c0 c1 f0 f1 hlt
  have c2 := hM.cRegs
  have cr := hM.cReg (a := n) (by omega)
  have fr := hM.fRb n
  have b1 : W.cell? ⟨w.heap.size, 1, none⟩ = some (.int .i64 (n : Int)) := by rw [blk_cell hbox]; rfl
  have b2 : W.cell? ⟨w.heap.size, 2, none⟩ = some (.int .i64 b) := by rw [blk_cell hbox]; rfl
  have HM : Hid (Mom B W px rb db pv tv { x with done := x.done + 1, pc := x.pc + 1 } pl) := hM
  clear hM hbox
  go_region
  go_wp2
  go_end0
  exact ⟨rfl, ((HM.out.setR n b).drew).congr (by simp [stp, setReg]), (hF.setCell (p := ⟨rb, _, none⟩) (fun _ => Or.inr (Or.inl rfl)) _).drew⟩

set_option maxRecDepth 100000 in
set_option maxHeartbeats 1000000 in
theorem does_12 (B : Nat) (w : World) (px rb db : Nat) (pv tv : Value) (x : Mo) (pl : List (Int × Int)) (a b c : Int) (mv : Value) (m : Int → Int) (hd : x.done ≤ 1000) (hpc : x.pc ≤ 1000)
    (h : Mom B w px rb db pv tv x pl) :
    Calls Try.prog 106 #[.pointer (some ⟨px, 0, none⟩), .agg #[.int .i64 12, .int .i64 a, .int .i64 b, .int .i64 c], mv] w fun e w' => e = .returned (.tuple #[]) ∧ Mom B w' px rb db pv tv (stp ⟨12, a, b, c⟩ m x) pl ∧ Fr (mom3 px rb db) w w' := by
  have c6 := h.cFin
  have f6 := h.fPx 6
  have c0 := h.cPc
  have c1 := h.cDone
  have f0 := h.fPx 0
  have f1 := h.fPx 1
  have hlt := blk_lt h.blk
  have hlr := blk_lt h.regs
  have hld := blk_lt h.read
  have H : Hid (Mom B w px rb db pv tv x pl) := h
  clear h
  go_enter Try.func106, Try.ntmps106
  go_wp2
  go_end0
  obtain ⟨hM, _, hF, _⟩ := boxed_head (op := 12) (a := a) (b := b) (c := c) H.out
  have hW := (((H.out.setDone (x.done + 1)).setPc (x.pc + 1)).setFin 4).alloc (.cells #[.int .i64 12, .int .i64 a, .int .i64 b, .int .i64 c] 40)
  refine ⟨rfl, ?_, ((((Fr.refl _ _).setCell (p := ⟨px, _, none⟩) (fun _ => Or.inl rfl) _).setCell (p := ⟨px, _, none⟩) (fun _ => Or.inl rfl) _).setCell (p := ⟨px, _, none⟩) (fun _ => Or.inl rfl) _).alloc _⟩
  have e1 : ((x.done + 1 : Nat) : Int) = (x.done : Int) + 1 := by omega
  have e2 : ((x.pc + 1 : Nat) : Int) = (x.pc : Int) + 1 := by omega
  rw [e1, e2] at hW
  exact hW.congr (by simp [stp])

set_option maxRecDepth 100000 in
set_option maxHeartbeats 1000000 in
theorem does_9 (B : Nat) (w : World) (px rb db : Nat) (pv tv : Value) (x : Mo) (pl : List (Int × Int)) (a b c : Int) (mv : Value) (m : Int → Int) (hd : x.done ≤ 1000) (hpc : x.pc ≤ 1000)
    (h : Mom B w px rb db pv tv x pl) (ha : 0 ≤ a) (ha' : a ≤ 3) (hb : 1 ≤ b) (hb' : b ≤ 32) :
    Calls Try.prog 106 #[.pointer (some ⟨px, 0, none⟩), .agg #[.int .i64 9, .int .i64 a, .int .i64 b, .int .i64 c], mv] w fun e w' => e = .returned (.tuple #[]) ∧ Mom B w' px rb db pv tv (stp ⟨9, a, b, c⟩ m x) pl ∧ Fr (mom3 px rb db) w w' := by
  obtain ⟨n, rfl⟩ : ∃ n : Nat, a = n := ⟨a.toNat, by omega⟩
  obtain ⟨bn, rfl⟩ : ∃ bn : Nat, b = bn := ⟨b.toNat, by omega⟩
  have c0 := h.cPc
  have c1 := h.cDone
  have f0 := h.fPx 0
  have f1 := h.fPx 1
  have hlt := blk_lt h.blk
  have hlr := blk_lt h.regs
  have hld := blk_lt h.read
  have H : Hid (Mom B w px rb db pv tv x pl) := h
  clear h
  go_enter Try.func106, Try.ntmps106
  go_wp2
  refine name_wp (boxed_head H.out) ?_
  rintro W ⟨hM, hbox, hF, hB⟩
  clear c0 c1 f0 f1
  have b1 : W.cell? ⟨w.heap.size, 1, none⟩ = some (.int .i64 (n : Int)) := by rw [blk_cell hbox]; rfl
  have b2 : W.cell? ⟨w.heap.size, 2, none⟩ = some (.int .i64 (bn : Int)) := by rw [blk_cell hbox]; rfl
  have HM : Hid (Mom B W px rb db pv tv { x with done := x.done + 1, pc := x.pc + 1 } pl) := hM
  have c2 := hM.cRegs
  have cr := hM.cReg (a := n) (by omega)
  have cp := hM.cPc
  have fp := hM.fPx 0
  clear hM hbox hlr hld hlt
  simp only at cr cp
  obtain ⟨r, hr⟩ : ∃ r, r = x.regs.getD n 0 := ⟨_, rfl⟩
  rw [← hr] at cr
  have HR : Hid (r = x.regs.getD n 0) := hr
  clear hr
  go_quiet (fail)
  by_cases hz : r = 0
  · go_wp2
    go_region
    go_wp2
    go_end0
    have hz' : (x.regs.getD n 0) = 0 := by rw [← HR.out]; exact hz
    have e : (x.pc : Int) + 1 + (bn : Int) = ((x.pc + 1 + bn : Nat) : Int) := by omega
    rw [e]
    exact ⟨rfl, ((HM.out.drewN _).setPc (x.pc + 1 + bn)).congr (by simp only [stp, reg, Int.toNat_natCast]; simp [hz', -List.getD_eq_getElem?_getD]), (hF.drewN _).setCell (p := ⟨px, _, none⟩) (fun _ => Or.inl rfl) _⟩
  · go_wp2
    go_end0
    have hz' : ¬ (x.regs.getD n 0) = 0 := by rw [← HR.out]; exact hz
    exact ⟨rfl, (HM.out.drewN _).congr (by simp only [stp, reg, Int.toNat_natCast]; simp [hz', -List.getD_eq_getElem?_getD]), hF.drewN _⟩

set_option maxRecDepth 100000 in
set_option maxHeartbeats 1000000 in
theorem does_10 (B : Nat) (w : World) (px rb db : Nat) (pv tv : Value) (x : Mo) (pl : List (Int × Int)) (a b c : Int) (mv : Value) (m : Int → Int) (hd : x.done ≤ 1000) (hpc : x.pc ≤ 1000)
    (h : Mom B w px rb db pv tv x pl) (ha : 0 ≤ a) (ha' : a ≤ 3) (hb : 1 ≤ b) (hb' : b ≤ x.pc) :
    Calls Try.prog 106 #[.pointer (some ⟨px, 0, none⟩), .agg #[.int .i64 10, .int .i64 a, .int .i64 b, .int .i64 c], mv] w fun e w' => e = .returned (.tuple #[]) ∧ Mom B w' px rb db pv tv (stp ⟨10, a, b, c⟩ m x) pl ∧ Fr (mom3 px rb db) w w' := by
  obtain ⟨n, rfl⟩ : ∃ n : Nat, a = n := ⟨a.toNat, by omega⟩
  obtain ⟨bn, rfl⟩ : ∃ bn : Nat, b = bn := ⟨b.toNat, by omega⟩
  have c0 := h.cPc
  have c1 := h.cDone
  have f0 := h.fPx 0
  have f1 := h.fPx 1
  have hlt := blk_lt h.blk
  have hlr := blk_lt h.regs
  have hld := blk_lt h.read
  have H : Hid (Mom B w px rb db pv tv x pl) := h
  clear h
  go_enter Try.func106, Try.ntmps106
  go_wp2
  refine name_wp (boxed_head H.out) ?_
  rintro W ⟨hM, hbox, hF, hB⟩
  clear c0 c1 f0 f1
  have b1 : W.cell? ⟨w.heap.size, 1, none⟩ = some (.int .i64 (n : Int)) := by rw [blk_cell hbox]; rfl
  have b2 : W.cell? ⟨w.heap.size, 2, none⟩ = some (.int .i64 (bn : Int)) := by rw [blk_cell hbox]; rfl
  have HM : Hid (Mom B W px rb db pv tv { x with done := x.done + 1, pc := x.pc + 1 } pl) := hM
  have c2 := hM.cRegs
  have cr := hM.cReg (a := n) (by omega)
  have cp := hM.cPc
  have fp := hM.fPx 0
  clear hM hbox hlr hld hlt
  simp only at cr cp
  obtain ⟨r, hr⟩ : ∃ r, r = x.regs.getD n 0 := ⟨_, rfl⟩
  rw [← hr] at cr
  have HR : Hid (r = x.regs.getD n 0) := hr
  clear hr
  go_quiet (fail)
  by_cases hz : 0 < r
  · go_wp2
    go_region
    go_wp2
    go_end0
    have hz' : 0 < x.regs.getD n 0 := by rw [← HR.out]; exact hz
    have e : (x.pc : Int) + 1 - (bn : Int) - 1 = ((x.pc + 1 - bn - 1 : Nat) : Int) := by omega
    rw [e]
    exact ⟨rfl, ((HM.out.drewN _).setPc (x.pc + 1 - bn - 1)).congr (by simp only [stp, reg, Int.toNat_natCast]; simp [hz', -List.getD_eq_getElem?_getD]), (hF.drewN _).setCell (p := ⟨px, _, none⟩) (fun _ => Or.inl rfl) _⟩
  · go_wp2
    go_end0
    have hz' : ¬ 0 < x.regs.getD n 0 := by rw [← HR.out]; omega
    exact ⟨rfl, (HM.out.drewN _).congr (by simp only [stp, reg, Int.toNat_natCast]; simp [hz', -List.getD_eq_getElem?_getD]), hF.drewN _⟩

end Go.Proofs.Ytlbmcdoldnajoaa
