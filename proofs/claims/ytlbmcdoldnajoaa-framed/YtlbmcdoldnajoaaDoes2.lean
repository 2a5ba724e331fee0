/- The document's own 'does', operation by operation: the plain ones. -/
import Derived.Test.YtlbmcdoldnajoaaDoes1
import Derived.Deep.RegionHeld3
import Derived.Deep.DrawnRows
import Derived.Deep.QuietTactic
import Derived.BigQuiet
import Derived.StillTailTactics
namespace Go.Proofs.Ytlbmcdoldnajoaa
open Go.RowKit
attribute [local go_sem ↓] Go.wp_at_zero Go.wp_at_succ

theorem wp_tail {id : Nat} {Q : Exit → Act → World → Prop} {a : Act} {w : World} {l : List Oper} (n : Nat) (hB : Region.lexTailB .any l.toArray n = true)
    (h : wpStill Try.prog l.toArray w.drew (fun a' => wpList Try.prog l.toArray Q (l.drop n) a' w.drew) (l.take n) a) : (Code.region id l.toArray true).wp Try.prog Q a w := wp_region_still_tail n (by kernel_rfl) hB h

theorem reg_bd {l : List Int} (h : ∀ r ∈ l, 0 ≤ r ∧ r ≤ 9999) (hl : l.length = 4) {a : Nat} (ha : a < 4) : 0 ≤ l.getD a 0 ∧ l.getD a 0 ≤ 9999 := by
  have e : l.getD a 0 = l[a]'(by omega) := by simp [List.getD, show a < l.length by omega]
  rw [e]
  exact h _ (List.getElem_mem _)

set_option maxRecDepth 100000 in
set_option maxHeartbeats 1000000 in
theorem does_2 (B : Nat) (w : World) (px rb db : Nat) (pv tv : Value) (x : Mo) (pl : List (Int × Int)) (a b c : Int) (mv : Value)  (hd : x.done ≤ 1000) (hpc : x.pc ≤ 1000)
    (h : Mom B w px rb db pv tv x pl) (ml : List (Int × Int)) (hm : PairsV w B mv ml) (hpl : pl.length ≤ 1000) (ha : 0 ≤ a) (ha' : a ≤ 3) (hb : 0 ≤ b) (hb' : b ≤ 15) :
    Calls Try.prog 106 #[.pointer (some ⟨px, 0, none⟩), .agg #[.int .i64 2, .int .i64 a, .int .i64 b, .int .i64 c], mv] w fun e w' => e = .returned (.tuple #[]) ∧ Mom B w' px rb db pv tv (stp ⟨2, a, b, c⟩ (vIn ml) x) pl ∧ Fr (mom3 px rb db) w w' := by
  obtain ⟨n, rfl⟩ : ∃ n : Nat, a = n := ⟨a.toNat, by omega⟩
  have c0 := h.cPc
  have c1 := h.cDone
  have f0 := h.fPx 0
  have f1 := h.fPx 1
  have hlt := blk_lt h.blk
  have hlr := blk_lt h.regs
  have hld := blk_lt h.read
  have H : Hid (Mom B w px rb db pv tv x pl) := h
  have HP : Hid (PairsV w B mv ml) := hm
  clear h hm
  go_enter Try.func106, Try.ntmps106
  go_wp2_with fail
  refine name_calls (boxed_head H.out) ?_
  rintro W ⟨hM, hbox, hF, hB⟩
  clear c0 c1 f0 f1
  have b1 : W.cell? ⟨w.heap.size, 1, none⟩ = some (.int .i64 (n : Int)) := by rw [blk_cell hbox]; rfl
  have b2 : W.cell? ⟨w.heap.size, 2, none⟩ = some (.int .i64 b) := by rw [blk_cell hbox]; rfl
  have HM : Hid (Mom B W px rb db pv tv { x with done := x.done + 1, pc := x.pc + 1 } pl) := hM
  have hP : PairsV W B mv ml := HP.out.below (hF.below (fun k hk => by rcases hk with rfl | rfl | rfl; exact H.out.bpx; exact H.out.brb; exact H.out.bdb) hB) (Nat.le_refl _)
  have HP2 : Hid (PairsV W B mv ml) := hP
  have HX : Hid (W.heap[w.heap.size]? = some (.cells #[.int .i64 2, .int .i64 (n : Int), .int .i64 b, .int .i64 c] 40 (0, 0))) := hbox
  clear hM hbox hP
  refine (sees_any B _ px rb db pv tv _ pl _ ml b hpl HM.out HP2.out hb hb').mono ?_
  rintro e W2 ⟨rfl, hM2, hF2⟩
  obtain ⟨sv, hsv⟩ : ∃ sv, sv = see (vIn ml) x.puts b := ⟨_, rfl⟩
  have HV : Hid (sv = see (vIn ml) x.puts b) := hsv
  simp only [← hsv]
  have hn3 : ¬ mom3 px rb db w.heap.size := by rintro (e | e | e) <;> omega
  have hbox2 := hF2.blk HX.out hn3
  have d1 : W2.cell? ⟨w.heap.size, 1, none⟩ = some (.int .i64 (n : Int)) := by rw [blk_cell hbox2]; rfl
  have c2 := hM2.cRegs
  have cr := hM2.cReg (a := n) (by omega)
  have fr := hM2.fRb n
  have HM2 : Hid (Mom B W2 px rb db pv tv _ pl) := hM2
  clear hM2 hbox2 b1 b2 hsv hn3 hlt hlr hld
  by_cases hz : sv < 0
  · go_wp2
    go_region
    go_wp2
    go_end0
    exact ⟨rfl, ((HM2.out.setR n 0).drew).congr (by simp [stp, setReg, ← HV.out, hz]), ((hF.trans hF2 (fun _ _ h => h)).setCell (p := ⟨rb, _, none⟩) (fun _ => Or.inr (Or.inl rfl)) _).drew⟩
  · go_wp2
    go_region
    go_wp2
    go_end0
    have hz' : ¬ sv < 0 := by omega
    exact ⟨rfl, ((HM2.out.setR n sv).drew).congr (by simp [stp, setReg, ← HV.out, hz']), ((hF.trans hF2 (fun _ _ h => h)).setCell (p := ⟨rb, _, none⟩) (fun _ => Or.inr (Or.inl rfl)) _).drew⟩

set_option maxRecDepth 100000 in
set_option maxHeartbeats 1000000 in
theorem does_7 (B : Nat) (w : World) (px rb db : Nat) (pv tv : Value) (x : Mo) (pl : List (Int × Int)) (a b c : Int) (mv : Value) (m : Int → Int) (hd : x.done ≤ 1000) (hpc : x.pc ≤ 1000)
    (h : Mom B w px rb db pv tv x pl) (ha : 0 ≤ a) (ha' : a ≤ 3) (hb : 0 ≤ b) (hb' : b ≤ 3) (hr : ∀ r ∈ x.regs, 0 ≤ r ∧ r ≤ 9999) :
    Calls Try.prog 106 #[.pointer (some ⟨px, 0, none⟩), .agg #[.int .i64 7, .int .i64 a, .int .i64 b, .int .i64 c], mv] w fun e w' => e = .returned (.tuple #[]) ∧ Mom B w' px rb db pv tv (stp ⟨7, a, b, c⟩ m x) pl ∧ Fr (mom3 px rb db) w w' := by
  obtain ⟨n, rfl⟩ : ∃ n : Nat, a = n := ⟨a.toNat, by omega⟩
  obtain ⟨bn, rfl⟩ : ∃ bn : Nat, b = bn := ⟨b.toNat, by omega⟩
  have c0 := h.cPc
  have c1 := h.cDone
  have f0 := h.fPx 0
  have f1 := h.fPx 1
  have hlt := blk_lt h.blk
  have hlr := blk_lt h.regs
  have hld := blk_lt h.read
  have H : Hid (Mom B w px rb db pv tv x pl) := h
  have hr1 := reg_bd hr h.rlen (a := n) (by omega)
  have hr2 := reg_bd hr h.rlen (a := bn) (by omega)
  clear h hr
  go_enter Try.func106, Try.ntmps106
  go_wp2
  refine name_wp (boxed_head H.out) ?_
  rintro W ⟨hM, hbox, hF, hB⟩
  clear c0 c1 f0 f1
  have b1 : W.cell? ⟨w.heap.size, 1, none⟩ = some (.int .i64 (n : Int)) := by rw [blk_cell hbox]; rfl
  have b2 : W.cell? ⟨w.heap.size, 2, none⟩ = some (.int .i64 (bn : Int)) := by rw [blk_cell hbox]; rfl
  have HM : Hid (Mom B W px rb db pv tv { x with done := x.done + 1, pc := x.pc + 1 } pl) := hM
  have c2 := hM.cRegs
  have cr := hM.cReg (a := n) (by omega)
  have cs := hM.cReg (a := bn) (by omega)
  clear hM hbox hlr hld hlt
  simp only at cr cs
  obtain ⟨r, hr⟩ : ∃ r, r = x.regs.getD n 0 := ⟨_, rfl⟩
  obtain ⟨s, hs⟩ : ∃ s, s = x.regs.getD bn 0 := ⟨_, rfl⟩
  rw [← hr] at cr hr1
  rw [← hs] at cs hr2
  have HR : Hid (r = x.regs.getD n 0) := hr
  have HS : Hid (s = x.regs.getD bn 0) := hs
  clear hr hs
  have n4 : (n : Int) < 4 := by omega
  have m4 : (bn : Int) < 4 := by omega
  have m0 : (0 : Int) ≤ (bn : Int) := by omega
  have hwr : IntKind.i64.wrap (r + s) = r + s := by rw [IntKind.wrap_i64]; omega
  refine wp_tail 20 (by kernel_rfl) ?_
  simp only [List.take_succ_cons, List.take_zero, List.drop_succ_cons, List.drop_zero]
  repeat still_step
  refine wpStill_nil ?_
  go_wp2_with (go_at_call 116; refine (becomes_any B _ px rb db pv tv _ pl (n : Int) (r + s) HM.out.drew (by omega) (by omega)).mono ?_; rintro e W2 ⟨rfl, hM2, hF2⟩)
  go_end0
  exact ⟨rfl, hM2.congr (by simp only [stp, reg, Int.toNat_natCast, HR.out, HS.out]; simp), hF.drew.trans hF2 (fun _ _ h => h)⟩

set_option maxRecDepth 100000 in
set_option maxHeartbeats 1000000 in
theorem does_8 (B : Nat) (w : World) (px rb db : Nat) (pv tv : Value) (x : Mo) (pl : List (Int × Int)) (a b c : Int) (mv : Value) (m : Int → Int) (hd : x.done ≤ 1000) (hpc : x.pc ≤ 1000)
    (h : Mom B w px rb db pv tv x pl) (ha : 0 ≤ a) (ha' : a ≤ 3) (hb : 0 ≤ b) (hb' : b ≤ 3) (hr : ∀ r ∈ x.regs, 0 ≤ r ∧ r ≤ 9999) :
    Calls Try.prog 106 #[.pointer (some ⟨px, 0, none⟩), .agg #[.int .i64 8, .int .i64 a, .int .i64 b, .int .i64 c], mv] w fun e w' => e = .returned (.tuple #[]) ∧ Mom B w' px rb db pv tv (stp ⟨8, a, b, c⟩ m x) pl ∧ Fr (mom3 px rb db) w w' := by
  obtain ⟨n, rfl⟩ : ∃ n : Nat, a = n := ⟨a.toNat, by omega⟩
  obtain ⟨bn, rfl⟩ : ∃ bn : Nat, b = bn := ⟨b.toNat, by omega⟩
  have c0 := h.cPc
  have c1 := h.cDone
  have f0 := h.fPx 0
  have f1 := h.fPx 1
  have hlt := blk_lt h.blk
  have hlr := blk_lt h.regs
  have hld := blk_lt h.read
  have H : Hid (Mom B w px rb db pv tv x pl) := h
  have hr1 := reg_bd hr h.rlen (a := n) (by omega)
  have hr2 := reg_bd hr h.rlen (a := bn) (by omega)
  clear h hr
  go_enter Try.func106, Try.ntmps106
  go_wp2
  refine name_wp (boxed_head H.out) ?_
  rintro W ⟨hM, hbox, hF, hB⟩
  clear c0 c1 f0 f1
  have b1 : W.cell? ⟨w.heap.size, 1, none⟩ = some (.int .i64 (n : Int)) := by rw [blk_cell hbox]; rfl
  have b2 : W.cell? ⟨w.heap.size, 2, none⟩ = some (.int .i64 (bn : Int)) := by rw [blk_cell hbox]; rfl
  have HM : Hid (Mom B W px rb db pv tv { x with done := x.done + 1, pc := x.pc + 1 } pl) := hM
  have c2 := hM.cRegs
  have cr := hM.cReg (a := n) (by omega)
  have cs := hM.cReg (a := bn) (by omega)
  clear hM hbox hlr hld hlt
  simp only at cr cs
  obtain ⟨r, hr⟩ : ∃ r, r = x.regs.getD n 0 := ⟨_, rfl⟩
  obtain ⟨s, hs⟩ : ∃ s, s = x.regs.getD bn 0 := ⟨_, rfl⟩
  rw [← hr] at cr hr1
  rw [← hs] at cs hr2
  have HR : Hid (r = x.regs.getD n 0) := hr
  have HS : Hid (s = x.regs.getD bn 0) := hs
  clear hr hs
  have n4 : (n : Int) < 4 := by omega
  have m4 : (bn : Int) < 4 := by omega
  have m0 : (0 : Int) ≤ (bn : Int) := by omega
  have hwr : IntKind.i64.wrap (r - s) = r - s := by rw [IntKind.wrap_i64]; omega
  refine wp_tail 20 (by kernel_rfl) ?_
  simp only [List.take_succ_cons, List.take_zero, List.drop_succ_cons, List.drop_zero]
  repeat still_step
  refine wpStill_nil ?_
  go_wp2_with (go_at_call 116; refine (becomes_any B _ px rb db pv tv _ pl (n : Int) (r - s) HM.out.drew (by omega) (by omega)).mono ?_; rintro e W2 ⟨rfl, hM2, hF2⟩)
  go_end0
  exact ⟨rfl, hM2.congr (by simp only [stp, reg, Int.toNat_natCast, HR.out, HS.out]; simp), hF.drew.trans hF2 (fun _ _ h => h)⟩

end Go.Proofs.Ytlbmcdoldnajoaa
