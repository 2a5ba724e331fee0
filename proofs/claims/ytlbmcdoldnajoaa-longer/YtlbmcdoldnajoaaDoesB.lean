/- The document's own 'does': what is put. -/
import Derived.Test.YtlbmcdoldnajoaaDoesLaw
namespace Go.Proofs.Ytlbmcdoldnajoaa
open Go.RowKit
attribute [local go_sem ↓] Go.wp_at_zero Go.wp_at_succ

set_option maxRecDepth 100000 in
set_option maxHeartbeats 8000000 in
theorem does_3 (B : Nat) (w : World) (px rb db : Nat) (pv tv : Value) (x : Mo) (pl : List (Int × Int)) (a b c : Int) (mv : Value) (m : Int → Int) (hd : x.done ≤ 1000) (hpc : x.pc ≤ 1000)
    (h : Mom B w px rb db pv tv x pl) (hpl : pl.length ≤ 1000) (hb : 0 ≤ b) (hb' : b ≤ 3) :
    Calls Try.prog 106 #[.pointer (some ⟨px, 0, none⟩), .agg #[.int .i64 3, .int .i64 a, .int .i64 b, .int .i64 c], mv] w fun e w' => e = .returned (.tuple #[]) ∧ ∃ pv' tv' pl', Mom B w' px rb db pv' tv' (stp ⟨3, a, b, c⟩ m x) pl' ∧ pl'.length ≤ pl.length + 1 ∧ Fr (momOwn px rb db pv tv) w w' := by
  obtain ⟨bn, rfl⟩ : ∃ bn : Nat, b = bn := ⟨b.toNat, by omega⟩
  have c0 := h.cPc
  have c1 := h.cDone
  have f0 := h.fPx 0
  have f1 := h.fPx 1
  have hlt := blk_lt h.blk
  have hlr := blk_lt h.regs
  have hld := blk_lt h.read
  have H : Hid (Mom B w px rb db pv tv x pl) := h
  clear h
  go_enter Try.func106, Try.ntmps106
  go_wp2
  refine name_wp (boxed_head H.out) ?_
  rintro W ⟨hM, hbox, hF, hB⟩
  clear c0 c1 f0 f1
  have b1 : W.cell? ⟨w.heap.size, 1, none⟩ = some (.int .i64 a) := by rw [blk_cell hbox]; rfl
  have b2 : W.cell? ⟨w.heap.size, 2, none⟩ = some (.int .i64 (bn : Int)) := by rw [blk_cell hbox]; rfl
  have HM : Hid (Mom B W px rb db pv tv { x with done := x.done + 1, pc := x.pc + 1 } pl) := hM
  have c2 := hM.cRegs
  have cr := hM.cReg (a := bn) (by omega)
  have c3 := hM.cPuts
  have f3 := hM.fPx 3
  have hBW : B ≤ W.heap.size := Nat.le_trans hB hF.size
  have hlW := blk_lt hM.blk
  have hlR := blk_lt hM.regs
  have hlX := blk_lt hbox
  have n4 : (bn : Int) < 4 := by omega
  clear hlr hld hlt hM hbox
  simp only at cr
  obtain ⟨r, hr⟩ : ∃ r, r = x.regs.getD bn 0 := ⟨_, rfl⟩
  rw [← hr] at cr
  have HR : Hid (r = x.regs.getD bn 0) := hr
  clear hr
  go_region_law (refine step_puts (.tmp 63) (.tmp 75) (by rfl) (by rfl) HM.out hBW hpl (by rfl) (by rfl) ?_; intro g cap w1 k3 k4 hput)
  all_goals
    go_wp2
    go_end0
    exact ⟨rfl, _, tv, _, hput.1.congr (by simp only [stp, reg, Int.toNat_natCast, HR.out]; simp), by simp, ((hF.mono (fun _ _ h => mom3_own h)).trans hput.2 (fun _ _ h => h)).setCell (p := ⟨px, _, none⟩) (fun _ => Or.inl rfl) _⟩

end Go.Proofs.Ytlbmcdoldnajoaa
