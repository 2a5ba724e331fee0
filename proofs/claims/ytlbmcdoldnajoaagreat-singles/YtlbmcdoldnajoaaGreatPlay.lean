import Derived.Test.YtlbmcdoldnajoaaGreatDoesLaw
import Derived.Test.YtlbmcdoldnajoaaGreatOk
import Derived.Deep.LoopGhost
set_option maxRecDepth 100000
set_option maxHeartbeats 8000000
namespace Go.Proofs.YtlbmcdoldnajoaaGreat
open Go.RowKit
attribute [local go_sem ↓] Go.wp_at_zero Go.wp_at_succ
theorem does_4 (B : Nat) (w : World) (px rb db : Nat) (pv tv : Value) (x : Mo) (pl : List (Int × Int)) (a b c : Int) (mv : Value) (m : Int → Int) (hd : x.done ≤ 1000) (hpc : x.pc ≤ 1000)
    (h : Mom B w px rb db pv tv x pl) (hpl : pl.length ≤ 1000) :
    Calls Tryz.prog 80 #[.pointer (some ⟨px, 0, none⟩), .agg #[.int .i64 4, .int .i64 a, .int .i64 b, .int .i64 c], mv] w fun e w' => e = .returned (.tuple #[]) ∧ ∃ pv' tv' pl', Mom B w' px rb db pv' tv' (stp ⟨4, a, b, c⟩ m x) pl' ∧ pl'.length ≤ pl.length + 1 ∧ Fr (momOwn px rb db pv tv) w w' := by
  have c0 := h.cPc
  have c1 := h.cDone
  have f0 := h.fPx 0
  have f1 := h.fPx 1
  have hlt := blk_lt h.blk
  have hlr := blk_lt h.regs
  have hld := blk_lt h.read
  have H : Hid (Mom B w px rb db pv tv x pl) := h
  clear h
  go_enter Tryz.func80, Tryz.ntmps80
  go_wp2
  refine name_wp (boxed_head H.out) ?_
  rintro W ⟨hM, hbox, hF, hB⟩
  clear c0 c1 f0 f1
  have b1 : W.cell? ⟨w.heap.size, 1, none⟩ = some (.int .i64 a) := by rw [blk_cell hbox]; rfl
  have b2 : W.cell? ⟨w.heap.size, 2, none⟩ = some (.int .i64 b) := by rw [blk_cell hbox]; rfl
  have HM : Hid (Mom B W px rb db pv tv { x with done := x.done + 1, pc := x.pc + 1 } pl) := hM
  have c3 := hM.cPuts
  have f3 := hM.fPx 3
  have hBW : B ≤ W.heap.size := Nat.le_trans hB hF.size
  have hlW := blk_lt hM.blk
  clear hlr hld hlt hM hbox
  go_region_law (refine step_puts (.tmp 85) (.tmp 89) (by rfl) (by rfl) HM.out hBW hpl (by rfl) (by rfl) ?_; intro g cap w1 k3 k4 hput)
  all_goals
    go_wp2
    go_end0
    exact ⟨rfl, _, tv, _, hput.1.congr (by simp [stp, putAt]), by simp, ((hF.mono (fun _ _ h => mom3_own h)).trans hput.2 (fun _ _ h => h)).setCell (p := ⟨px, _, none⟩) (fun _ => Or.inl rfl) _⟩
theorem does_11 (B : Nat) (w : World) (px rb db : Nat) (pv tv : Value) (x : Mo) (pl : List (Int × Int)) (a b c : Int) (mv : Value) (m : Int → Int) (hd : x.done ≤ 1000) (hpc : x.pc ≤ 1000)
    (h : Mom B w px rb db pv tv x pl) (htl : x.told.length ≤ 1000) (ha : 0 ≤ a) (ha' : a ≤ 3) :
    Calls Tryz.prog 80 #[.pointer (some ⟨px, 0, none⟩), .agg #[.int .i64 11, .int .i64 a, .int .i64 b, .int .i64 c], mv] w fun e w' => e = .returned (.tuple #[]) ∧ ∃ pv' tv' pl', Mom B w' px rb db pv' tv' (stp ⟨11, a, b, c⟩ m x) pl' ∧ pl'.length ≤ pl.length + 1 ∧ Fr (momOwn px rb db pv tv) w w' := by
  obtain ⟨n, rfl⟩ : ∃ n : Nat, a = n := ⟨a.toNat, by omega⟩
  have c0 := h.cPc
  have c1 := h.cDone
  have f0 := h.fPx 0
  have f1 := h.fPx 1
  have hlt := blk_lt h.blk
  have hlr := blk_lt h.regs
  have hld := blk_lt h.read
  have H : Hid (Mom B w px rb db pv tv x pl) := h
  clear h
  go_enter Tryz.func80, Tryz.ntmps80
  go_wp2
  refine name_wp (boxed_head H.out) ?_
  rintro W ⟨hM, hbox, hF, hB⟩
  clear c0 c1 f0 f1
  have b1 : W.cell? ⟨w.heap.size, 1, none⟩ = some (.int .i64 (n : Int)) := by rw [blk_cell hbox]; rfl
  have b2 : W.cell? ⟨w.heap.size, 2, none⟩ = some (.int .i64 b) := by rw [blk_cell hbox]; rfl
  have HM : Hid (Mom B W px rb db pv tv { x with done := x.done + 1, pc := x.pc + 1 } pl) := hM
  have c2 := hM.cRegs
  have cr := hM.cReg (a := n) (by omega)
  have c5 := hM.cTold
  have f5 := hM.fPx 5
  have hBW : B ≤ W.heap.size := Nat.le_trans hB hF.size
  have hlW := blk_lt hM.blk
  have hlR := blk_lt hM.regs
  have hlX := blk_lt hbox
  have n4 : (n : Int) < 4 := by omega
  clear hlr hld hlt hM hbox
  simp only at cr
  obtain ⟨r, hr⟩ : ∃ r, r = x.regs.getD n 0 := ⟨_, rfl⟩
  rw [← hr] at cr
  have HR : Hid (r = x.regs.getD n 0) := hr
  clear hr
  go_region_law (refine step_told (.tmp 219) (.tmp 228) (by rfl) (by rfl) HM.out hBW htl (by rfl) (by rfl) ?_; intro g cap w1 k3 k4 hput)
  all_goals
    go_wp2
    go_end0
    exact ⟨rfl, pv, _, pl, hput.1.congr (by simp only [stp, reg, Int.toNat_natCast, HR.out]; simp), by simp, ((hF.mono (fun _ _ h => mom3_own h)).trans hput.2 (fun _ _ h => h)).setCell (p := ⟨px, _, none⟩) (fun _ => Or.inl rfl) _⟩
end Go.Proofs.YtlbmcdoldnajoaaGreat
namespace Go.Proofs.YtlbmcdoldnajoaaGreat
open Go.RowKit
attribute [local go_sem ↓] Go.wp_at_zero Go.wp_at_succ
theorem does_3 (B : Nat) (w : World) (px rb db : Nat) (pv tv : Value) (x : Mo) (pl : List (Int × Int)) (a b c : Int) (mv : Value) (m : Int → Int) (hd : x.done ≤ 1000) (hpc : x.pc ≤ 1000)
    (h : Mom B w px rb db pv tv x pl) (hpl : pl.length ≤ 1000) (hb : 0 ≤ b) (hb' : b ≤ 3) :
    Calls Tryz.prog 80 #[.pointer (some ⟨px, 0, none⟩), .agg #[.int .i64 3, .int .i64 a, .int .i64 b, .int .i64 c], mv] w fun e w' => e = .returned (.tuple #[]) ∧ ∃ pv' tv' pl', Mom B w' px rb db pv' tv' (stp ⟨3, a, b, c⟩ m x) pl' ∧ pl'.length ≤ pl.length + 1 ∧ Fr (momOwn px rb db pv tv) w w' := by
  obtain ⟨bn, rfl⟩ : ∃ bn : Nat, b = bn := ⟨b.toNat, by omega⟩
  have c0 := h.cPc
  have c1 := h.cDone
  have f0 := h.fPx 0
  have f1 := h.fPx 1
  have hlt := blk_lt h.blk
  have hlr := blk_lt h.regs
  have hld := blk_lt h.read
  have H : Hid (Mom B w px rb db pv tv x pl) := h
  clear h
  go_enter Tryz.func80, Tryz.ntmps80
  go_wp2
  refine name_wp (boxed_head H.out) ?_
  rintro W ⟨hM, hbox, hF, hB⟩
  clear c0 c1 f0 f1
  have b1 : W.cell? ⟨w.heap.size, 1, none⟩ = some (.int .i64 a) := by rw [blk_cell hbox]; rfl
  have b2 : W.cell? ⟨w.heap.size, 2, none⟩ = some (.int .i64 (bn : Int)) := by rw [blk_cell hbox]; rfl
  have HM : Hid (Mom B W px rb db pv tv { x with done := x.done + 1, pc := x.pc + 1 } pl) := hM
  have c2 := hM.cRegs
  have cr := hM.cReg (a := bn) (by omega)
  have c3 := hM.cPuts
  have f3 := hM.fPx 3
  have hBW : B ≤ W.heap.size := Nat.le_trans hB hF.size
  have hlW := blk_lt hM.blk
  have hlR := blk_lt hM.regs
  have hlX := blk_lt hbox
  have n4 : (bn : Int) < 4 := by omega
  clear hlr hld hlt hM hbox
  simp only at cr
  obtain ⟨r, hr⟩ : ∃ r, r = x.regs.getD bn 0 := ⟨_, rfl⟩
  rw [← hr] at cr
  have HR : Hid (r = x.regs.getD bn 0) := hr
  clear hr
  go_region_law (refine step_puts (.tmp 63) (.tmp 75) (by rfl) (by rfl) HM.out hBW hpl (by rfl) (by rfl) ?_; intro g cap w1 k3 k4 hput)
  all_goals
    go_wp2
    go_end0
    exact ⟨rfl, _, tv, _, hput.1.congr (by simp only [stp, reg, Int.toNat_natCast, HR.out]; simp), by simp, ((hF.mono (fun _ _ h => mom3_own h)).trans hput.2 (fun _ _ h => h)).setCell (p := ⟨px, _, none⟩) (fun _ => Or.inl rfl) _⟩
end Go.Proofs.YtlbmcdoldnajoaaGreat
namespace Go.Proofs.YtlbmcdoldnajoaaGreat
open Go.RowKit
theorem sumK_bd {f : Int → Int} (hf : ∀ k, f k ≤ 9999) (b : Int) : ∀ n : Nat, 0 ≤ sumK f b n ∧ sumK f b n ≤ 9999 * n
  | 0 => by simp [sumK]
  | n + 1 => by
    have ih := sumK_bd hf b n
    have := hf (b + n)
    simp only [sumK]
    split <;> omega
theorem cntK_bd (f : Int → Int) (b : Int) : ∀ n : Nat, 0 ≤ cntK f b n ∧ cntK f b n ≤ n
  | 0 => by simp [cntK]
  | n + 1 => by
    have ih := cntK_bd f b n
    simp only [cntK]
    split <;> omega
theorem does_5 (B : Nat) (w : World) (px rb db : Nat) (pv tv : Value) (x : Mo) (pl : List (Int × Int)) (a b c : Int) (mv : Value)  (hd : x.done ≤ 1000) (hpc : x.pc ≤ 1000)
    (h : Mom B w px rb db pv tv x pl) (ml : List (Int × Int)) (hm : PairsV w B mv ml) (hpl : pl.length ≤ 1000) (ha : 0 ≤ a) (ha' : a ≤ 3) (hb : 0 ≤ b) (hb' : b ≤ c) (hc : c ≤ 15) (hv : ∀ k, see (vIn ml) x.puts k ≤ 9999) :
    Calls Tryz.prog 80 #[.pointer (some ⟨px, 0, none⟩), .agg #[.int .i64 5, .int .i64 a, .int .i64 b, .int .i64 c], mv] w fun e w' => e = .returned (.tuple #[]) ∧ Mom B w' px rb db pv tv (stp ⟨5, a, b, c⟩ (vIn ml) x) pl ∧ Fr (mom3 px rb db) w w' := by
  have c0 := h.cPc
  have c1 := h.cDone
  have f0 := h.fPx 0
  have f1 := h.fPx 1
  have hlt := blk_lt h.blk
  have hlr := blk_lt h.regs
  have hld := blk_lt h.read
  have H : Hid (Mom B w px rb db pv tv x pl) := h
  have HP : Hid (PairsV w B mv ml) := hm
  have HV : Hid (∀ k, see (vIn ml) x.puts k ≤ 9999) := hv
  clear h hm hv
  go_enter Tryz.func80, Tryz.ntmps80
  go_wp2
  refine name_wp (boxed_head H.out) ?_
  rintro W ⟨hM, hbox, hF, hB⟩
  clear c0 c1 f0 f1
  have hn3 : ¬ mom3 px rb db w.heap.size := by rintro (e | e | e) <;> omega
  have HX : Hid (W.heap[w.heap.size]? = some (.cells #[.int .i64 5, .int .i64 a, .int .i64 b, .int .i64 c] 95 (0, 0))) := hbox
  have HM : Hid (Mom B W px rb db pv tv { x with done := x.done + 1, pc := x.pc + 1 } pl) := hM
  have HF : Hid (Fr (mom3 px rb db) w W) := hF
  have hge : ∀ k, mom3 px rb db k → B ≤ k := fun k hk => by rcases hk with rfl | rfl | rfl; exact hM.bpx; exact hM.brb; exact hM.bdb
  have HG : Hid (∀ k, mom3 px rb db k → B ≤ k) := hge
  have HN3 : Hid (¬ mom3 px rb db w.heap.size) := hn3
  have b2 : W.cell? ⟨w.heap.size, 2, none⟩ = some (.int .i64 b) := by rw [blk_cell hbox]; rfl
  have hWs := blk_lt hbox
  clear hM hbox hF hlt hlr hld hge hn3
  go_wp2
  go_loopw [7, 8, 9] (fun s m k wr => ∃ j : Nat, b + j ≤ c + 1 ∧ k = .int .i64 (b + j) ∧ s = .int .i64 (sumK (see (vIn ml) x.puts) b j) ∧ m = .int .i64 (cntK (see (vIn ml) x.puts) b j) ∧
      Mom B wr px rb db pv tv { x with done := x.done + 1, pc := x.pc + 1, read := markK x.puts x.read b j } pl ∧ Fr (mom3 px rb db) W wr) (fun _ _ k _ => (c + 1 - intOf k).toNat)
  case atStart => exact ⟨0, by omega, by simp, rfl, rfl, HM.out, Fr.refl _ _⟩
  case round =>
    obtain ⟨j, hj, rfl, rfl, rfl, hMj, hFj⟩ := hrel
    have hboxj := hFj.blk HX.out HN3.out
    have d0 : wr.cell? ⟨w.heap.size, 0, none⟩ = some (.int .i64 5) := by rw [blk_cell hboxj]; rfl
    have d1 : wr.cell? ⟨w.heap.size, 1, none⟩ = some (.int .i64 a) := by rw [blk_cell hboxj]; rfl
    have d3 : wr.cell? ⟨w.heap.size, 3, none⟩ = some (.int .i64 c) := by rw [blk_cell hboxj]; rfl
    have hsb := sumK_bd HV.out b j
    have hcb := cntK_bd (see (vIn ml) x.puts) b j
    have HMj : Hid (Mom B wr px rb db pv tv { x with done := x.done + 1, pc := x.pc + 1, read := markK x.puts x.read b j } pl) := hMj
    have HFj : Hid (Fr (mom3 px rb db) W wr) := hFj
    have hPj : Hid (PairsV wr B mv ml) := HP.out.below (((HF.out.trans hFj (fun _ _ h => h)).below HG.out hB)) (Nat.le_refl _)
    clear hMj hFj hboxj b2
    by_cases hlt : b + (j : Int) ≤ c
    · go_wp2_with (go_at_call 90; refine (sees_any B _ px rb db pv tv _ pl _ ml (b + j) hpl HMj.out hPj.out (by omega) (by omega)).mono ?_)
      rintro e W2 rfl hM2 hF2
      have hs1 : sumK (see (vIn ml) x.puts) b (j + 1) = sumK (see (vIn ml) x.puts) b j + if 0 ≤ see (vIn ml) x.puts (b + j) then see (vIn ml) x.puts (b + j) else 0 := rfl
      have hc1 : cntK (see (vIn ml) x.puts) b (j + 1) = cntK (see (vIn ml) x.puts) b j + if 0 ≤ see (vIn ml) x.puts (b + j) then 1 else 0 := rfl
      have hsv9 := HV.out (b + j)
      obtain ⟨sv, hsv⟩ : ∃ sv, sv = see (vIn ml) x.puts (b + j) := ⟨_, rfl⟩
      simp only [← hsv] at hs1 hc1 hsv9 ⊢
      have HS1 : Hid (sumK (see (vIn ml) x.puts) b (j + 1) = sumK (see (vIn ml) x.puts) b j + if 0 ≤ sv then sv else 0) := hs1
      have HC1 : Hid (cntK (see (vIn ml) x.puts) b (j + 1) = cntK (see (vIn ml) x.puts) b j + if 0 ≤ sv then 1 else 0) := hc1
      obtain ⟨su, hsu⟩ : ∃ su, su = sumK (see (vIn ml) x.puts) b j := ⟨_, rfl⟩
      obtain ⟨cn, hcn⟩ : ∃ cn, cn = cntK (see (vIn ml) x.puts) b j := ⟨_, rfl⟩
      simp only [← hsu, ← hcn] at hsb hcb ⊢
      rw [← hsu] at HS1
      rw [← hcn] at HC1
      have HM2 : Hid (Mom B W2 px rb db pv tv { x with done := x.done + 1, pc := x.pc + 1, read := markK x.puts x.read b (j + 1) } pl) := hM2
      have HF2 : Hid (Fr (mom3 px rb db) W W2) := HFj.out.trans hF2 (fun _ _ h => h)
      clear hM2 hF2 hs1 hc1 hsv hsu hcn d0 d1 d3
      by_cases hz : 0 ≤ sv
      · go_wp2
        go_roundw
        case rel => exact ⟨j + 1, by omega, by go_num, by rw [HS1.out, if_pos hz], by rw [HC1.out, if_pos hz], HM2.out, HF2.out⟩
        case measure => simp [intOf]; omega
      · go_wp2
        go_roundw
        case rel => exact ⟨j + 1, by omega, by go_num, by rw [HS1.out, if_neg (by omega)]; simp, by rw [HC1.out, if_neg (by omega)]; simp, HM2.out, HF2.out⟩
        case measure => simp [intOf]; omega
    · have ej : (c - b + 1).toNat = j := by omega
      have EJ : Hid ((c - b + 1).toNat = j) := ej
      clear ej
      go_wp2_with (go_at_call 91; refine (becomes_any B _ px rb db pv tv _ pl a (sumK (see (vIn ml) x.puts) b j) HMj.out ha ha').mono ?_)
      rintro e W2 rfl hM2 hF2
      go_wp2
      go_end0
      exact ⟨rfl, hM2.congr (by simp [stp, EJ.out]), (HF.out.trans HFj.out (fun _ _ h => h)).trans hF2 (fun _ _ h => h)⟩
theorem does_6 (B : Nat) (w : World) (px rb db : Nat) (pv tv : Value) (x : Mo) (pl : List (Int × Int)) (a b c : Int) (mv : Value)  (hd : x.done ≤ 1000) (hpc : x.pc ≤ 1000)
    (h : Mom B w px rb db pv tv x pl) (ml : List (Int × Int)) (hm : PairsV w B mv ml) (hpl : pl.length ≤ 1000) (ha : 0 ≤ a) (ha' : a ≤ 3) (hb : 0 ≤ b) (hb' : b ≤ c) (hc : c ≤ 15) (hv : ∀ k, see (vIn ml) x.puts k ≤ 9999) :
    Calls Tryz.prog 80 #[.pointer (some ⟨px, 0, none⟩), .agg #[.int .i64 6, .int .i64 a, .int .i64 b, .int .i64 c], mv] w fun e w' => e = .returned (.tuple #[]) ∧ Mom B w' px rb db pv tv (stp ⟨6, a, b, c⟩ (vIn ml) x) pl ∧ Fr (mom3 px rb db) w w' := by
  have c0 := h.cPc
  have c1 := h.cDone
  have f0 := h.fPx 0
  have f1 := h.fPx 1
  have hlt := blk_lt h.blk
  have hlr := blk_lt h.regs
  have hld := blk_lt h.read
  have H : Hid (Mom B w px rb db pv tv x pl) := h
  have HP : Hid (PairsV w B mv ml) := hm
  have HV : Hid (∀ k, see (vIn ml) x.puts k ≤ 9999) := hv
  clear h hm hv
  go_enter Tryz.func80, Tryz.ntmps80
  go_wp2
  refine name_wp (boxed_head H.out) ?_
  rintro W ⟨hM, hbox, hF, hB⟩
  clear c0 c1 f0 f1
  have hn3 : ¬ mom3 px rb db w.heap.size := by rintro (e | e | e) <;> omega
  have HX : Hid (W.heap[w.heap.size]? = some (.cells #[.int .i64 6, .int .i64 a, .int .i64 b, .int .i64 c] 95 (0, 0))) := hbox
  have HM : Hid (Mom B W px rb db pv tv { x with done := x.done + 1, pc := x.pc + 1 } pl) := hM
  have HF : Hid (Fr (mom3 px rb db) w W) := hF
  have hge : ∀ k, mom3 px rb db k → B ≤ k := fun k hk => by rcases hk with rfl | rfl | rfl; exact hM.bpx; exact hM.brb; exact hM.bdb
  have HG : Hid (∀ k, mom3 px rb db k → B ≤ k) := hge
  have HN3 : Hid (¬ mom3 px rb db w.heap.size) := hn3
  have b2 : W.cell? ⟨w.heap.size, 2, none⟩ = some (.int .i64 b) := by rw [blk_cell hbox]; rfl
  have hWs := blk_lt hbox
  clear hM hbox hF hlt hlr hld hge hn3
  go_wp2
  go_loopw [7, 8, 9] (fun s m k wr => ∃ j : Nat, b + j ≤ c + 1 ∧ k = .int .i64 (b + j) ∧ s = .int .i64 (sumK (see (vIn ml) x.puts) b j) ∧ m = .int .i64 (cntK (see (vIn ml) x.puts) b j) ∧
      Mom B wr px rb db pv tv { x with done := x.done + 1, pc := x.pc + 1, read := markK x.puts x.read b j } pl ∧ Fr (mom3 px rb db) W wr) (fun _ _ k _ => (c + 1 - intOf k).toNat)
  case atStart => exact ⟨0, by omega, by simp, rfl, rfl, HM.out, Fr.refl _ _⟩
  case round =>
    obtain ⟨j, hj, rfl, rfl, rfl, hMj, hFj⟩ := hrel
    have hboxj := hFj.blk HX.out HN3.out
    have d0 : wr.cell? ⟨w.heap.size, 0, none⟩ = some (.int .i64 6) := by rw [blk_cell hboxj]; rfl
    have d1 : wr.cell? ⟨w.heap.size, 1, none⟩ = some (.int .i64 a) := by rw [blk_cell hboxj]; rfl
    have d3 : wr.cell? ⟨w.heap.size, 3, none⟩ = some (.int .i64 c) := by rw [blk_cell hboxj]; rfl
    have hsb := sumK_bd HV.out b j
    have hcb := cntK_bd (see (vIn ml) x.puts) b j
    have HMj : Hid (Mom B wr px rb db pv tv { x with done := x.done + 1, pc := x.pc + 1, read := markK x.puts x.read b j } pl) := hMj
    have HFj : Hid (Fr (mom3 px rb db) W wr) := hFj
    have hPj : Hid (PairsV wr B mv ml) := HP.out.below (((HF.out.trans hFj (fun _ _ h => h)).below HG.out hB)) (Nat.le_refl _)
    clear hMj hFj hboxj b2
    by_cases hlt : b + (j : Int) ≤ c
    · go_wp2_with (go_at_call 90; refine (sees_any B _ px rb db pv tv _ pl _ ml (b + j) hpl HMj.out hPj.out (by omega) (by omega)).mono ?_)
      rintro e W2 rfl hM2 hF2
      have hs1 : sumK (see (vIn ml) x.puts) b (j + 1) = sumK (see (vIn ml) x.puts) b j + if 0 ≤ see (vIn ml) x.puts (b + j) then see (vIn ml) x.puts (b + j) else 0 := rfl
      have hc1 : cntK (see (vIn ml) x.puts) b (j + 1) = cntK (see (vIn ml) x.puts) b j + if 0 ≤ see (vIn ml) x.puts (b + j) then 1 else 0 := rfl
      have hsv9 := HV.out (b + j)
      obtain ⟨sv, hsv⟩ : ∃ sv, sv = see (vIn ml) x.puts (b + j) := ⟨_, rfl⟩
      simp only [← hsv] at hs1 hc1 hsv9 ⊢
      have HS1 : Hid (sumK (see (vIn ml) x.puts) b (j + 1) = sumK (see (vIn ml) x.puts) b j + if 0 ≤ sv then sv else 0) := hs1
      have HC1 : Hid (cntK (see (vIn ml) x.puts) b (j + 1) = cntK (see (vIn ml) x.puts) b j + if 0 ≤ sv then 1 else 0) := hc1
      obtain ⟨su, hsu⟩ : ∃ su, su = sumK (see (vIn ml) x.puts) b j := ⟨_, rfl⟩
      obtain ⟨cn, hcn⟩ : ∃ cn, cn = cntK (see (vIn ml) x.puts) b j := ⟨_, rfl⟩
      simp only [← hsu, ← hcn] at hsb hcb ⊢
      rw [← hsu] at HS1
      rw [← hcn] at HC1
      have HM2 : Hid (Mom B W2 px rb db pv tv { x with done := x.done + 1, pc := x.pc + 1, read := markK x.puts x.read b (j + 1) } pl) := hM2
      have HF2 : Hid (Fr (mom3 px rb db) W W2) := HFj.out.trans hF2 (fun _ _ h => h)
      clear hM2 hF2 hs1 hc1 hsv hsu hcn d0 d1 d3
      by_cases hz : 0 ≤ sv
      · go_wp2
        go_roundw
        case rel => exact ⟨j + 1, by omega, by go_num, by rw [HS1.out, if_pos hz], by rw [HC1.out, if_pos hz], HM2.out, HF2.out⟩
        case measure => simp [intOf]; omega
      · go_wp2
        go_roundw
        case rel => exact ⟨j + 1, by omega, by go_num, by rw [HS1.out, if_neg (by omega)]; simp, by rw [HC1.out, if_neg (by omega)]; simp, HM2.out, HF2.out⟩
        case measure => simp [intOf]; omega
    · have ej : (c - b + 1).toNat = j := by omega
      have EJ : Hid ((c - b + 1).toNat = j) := ej
      clear ej
      go_wp2_with (go_at_call 91; refine (becomes_any B _ px rb db pv tv _ pl a (cntK (see (vIn ml) x.puts) b j) HMj.out ha ha').mono ?_)
      rintro e W2 rfl hM2 hF2
      go_wp2
      go_end0
      exact ⟨rfl, hM2.congr (by simp [stp, EJ.out]), (HF.out.trans HFj.out (fun _ _ h => h)).trans hF2 (fun _ _ h => h)⟩
end Go.Proofs.YtlbmcdoldnajoaaGreat
namespace Go.Proofs.YtlbmcdoldnajoaaGreat
open Go.RowKit
theorem does_any (B : Nat) (w : World) (px rb db : Nat) (pv tv : Value) (x : Mo) (pl : List (Int × Int)) (s : St) (mv : Value) (ml : List (Int × Int)) (n : Nat) (hn : n ≤ 32) (hok : MoOk n x) (hpc : x.pc < n) (hs : stB s x.pc n = true)
    (hm : PairsV w B mv ml) (hml : ∀ k, vIn ml k ≤ 9999) (hd : x.done ≤ 1000) (hpl : pl.length ≤ x.done) (h : Mom B w px rb db pv tv x pl) :
    Calls Tryz.prog 80 #[.pointer (some ⟨px, 0, none⟩), .agg #[.int .i64 s.op, .int .i64 s.a, .int .i64 s.b, .int .i64 s.c], mv] w fun e w' => e = .returned (.tuple #[]) ∧
      ∃ pv' tv' pl', Mom B w' px rb db pv' tv' (stp s (vIn ml) x) pl' ∧ pl'.length ≤ pl.length + 1 ∧ Fr (momOwn px rb db pv tv) w w' := by
  obtain ⟨op, a, b, c⟩ := s
  have hpl' : pl.length ≤ 1000 := by omega
  have htl : x.told.length ≤ 1000 := by have := hok.told; omega
  have hpc' : x.pc ≤ 1000 := by omega
  have hv := see_le hok hml
  have plain : ∀ e w', (e = Ending.returned (.tuple #[]) ∧ Mom B w' px rb db pv tv (stp ⟨op, a, b, c⟩ (vIn ml) x) pl ∧ Fr (mom3 px rb db) w w') →
      e = Ending.returned (.tuple #[]) ∧ ∃ pv' tv' pl', Mom B w' px rb db pv' tv' (stp ⟨op, a, b, c⟩ (vIn ml) x) pl' ∧ pl'.length ≤ pl.length + 1 ∧ Fr (momOwn px rb db pv tv) w w' :=
    fun e w' ⟨h1, h2, h3⟩ => ⟨h1, pv, tv, pl, h2, by omega, h3.mono (fun _ _ h => mom3_own h)⟩
  unfold stB stepB at hs
  simp only at hs ⊢
  by_cases e1 : op = 1
  · subst e1
    simp [regB, inB] at hs
    exact (does_1 B w px rb db pv tv x pl a b c mv (vIn ml) hd hpc' h (by omega) (by omega)).mono plain
  rw [if_neg e1] at hs
  by_cases e2 : op = 2
  · subst e2
    simp [regB, keyB] at hs
    exact (does_2 B w px rb db pv tv x pl a b c mv hd hpc' h ml hm hpl' (by omega) (by omega) (by omega) (by omega)).mono plain
  rw [if_neg e2] at hs
  by_cases e3 : op = 3
  · subst e3
    simp [regB, keyB] at hs
    exact does_3 B w px rb db pv tv x pl a b c mv (vIn ml) hd hpc' h hpl' (by omega) (by omega)
  rw [if_neg e3] at hs
  by_cases e4 : op = 4
  · subst e4
    exact does_4 B w px rb db pv tv x pl a b c mv (vIn ml) hd hpc' h hpl'
  rw [if_neg e4] at hs
  by_cases e5 : op = 5 ∨ op = 6
  · rw [if_pos e5] at hs
    simp [regB, keyB] at hs
    rcases e5 with e5 | e5
    · subst e5
      exact (does_5 B w px rb db pv tv x pl a b c mv hd hpc' h ml hm hpl' (by omega) (by omega) (by omega) (by omega) (by omega) hv).mono plain
    · subst e5
      exact (does_6 B w px rb db pv tv x pl a b c mv hd hpc' h ml hm hpl' (by omega) (by omega) (by omega) (by omega) (by omega) hv).mono plain
  rw [if_neg e5] at hs
  by_cases e7 : op = 7 ∨ op = 8
  · rw [if_pos e7] at hs
    simp [regB] at hs
    rcases e7 with e7 | e7
    · subst e7
      exact (does_7 B w px rb db pv tv x pl a b c mv (vIn ml) hd hpc' h (by omega) (by omega) (by omega) (by omega) hok.regs).mono plain
    · subst e7
      exact (does_8 B w px rb db pv tv x pl a b c mv (vIn ml) hd hpc' h (by omega) (by omega) (by omega) (by omega) hok.regs).mono plain
  rw [if_neg e7] at hs
  by_cases e9 : op = 9
  · subst e9
    simp [regB, inB] at hs
    exact (does_9 B w px rb db pv tv x pl a b c mv (vIn ml) hd hpc' h (by omega) (by omega) (by omega) (by omega)).mono plain
  rw [if_neg e9] at hs
  by_cases e10 : op = 10
  · subst e10
    simp [regB, inB] at hs
    exact (does_10 B w px rb db pv tv x pl a b c mv (vIn ml) hd hpc' h (by omega) (by omega) (by omega) (by omega)).mono plain
  rw [if_neg e10] at hs
  by_cases e11 : op = 11
  · subst e11
    simp [regB] at hs
    exact does_11 B w px rb db pv tv x pl a b c mv (vIn ml) hd hpc' h htl (by omega) (by omega)
  rw [if_neg e11] at hs
  by_cases e12 : op = 12
  · subst e12
    exact (does_12 B w px rb db pv tv x pl a b c mv (vIn ml) hd hpc' h).mono plain
  rw [if_neg e12] at hs
  cases hs
end Go.Proofs.YtlbmcdoldnajoaaGreat
namespace Go.Proofs.YtlbmcdoldnajoaaGreat
open Go.RowKit
theorem play_zero (l : List St) (m : Int → Int) (x : Mo) : play l m 0 x = x := rfl
theorem play_go {l : List St} {m : Int → Int} {n : Nat} {x : Mo} (h : x.fin = 0 ∧ x.pc < l.length) : play l m (n + 1) x = play l m n (stp (l.getD x.pc stz) m x) := by rw [play, if_pos h]
theorem play_end {l : List St} {m : Int → Int} {n : Nat} {x : Mo} (h : ¬ (x.fin = 0 ∧ x.pc < l.length)) : play l m n x = x := by
  cases n with
  | zero => rfl
  | succ n => rw [play, if_neg h]
theorem jobB_at {l : List St} (h : jobB l = true) : l.length ≤ 32 ∧ ∀ i, i < l.length → stB (l.getD i stz) i l.length = true := by
  simp only [jobB, Bool.and_eq_true, decide_eq_true_eq, List.all_eq_true, List.mem_range] at h
  exact h
theorem owns_ge {w : World} {base : Nat} {e : TypeId} {size : Nat} {v : Value} {n : Nat} {xs : List Value} (h : w.ownsRow base e size v n xs) {k : Nat} (hk : v.ownBlock = some k) : base ≤ k := by
  rcases h.2 with ⟨rfl, _⟩ | ⟨g, cap, cur, rfl, hb, _⟩
  · cases hk
  · injection hk with hk
    have e : g = k := hk
    omega
theorem Mom.own_ge {B : Nat} {w : World} {px rb db : Nat} {pv tv : Value} {x : Mo} {pl : List (Int × Int)} (h : Mom B w px rb db pv tv x pl) : ∀ k, momOwn px rb db pv tv k → B ≤ k := by
  rintro k (rfl | rfl | rfl | hk | hk)
  · exact h.bpx
  · exact h.brb
  · exact h.bdb
  · exact owns_ge h.puts hk
  · exact owns_ge h.told hk
theorem Mom.base_le {B : Nat} {w : World} {px rb db : Nat} {pv tv : Value} {x : Mo} {pl : List (Int × Int)} (h : Mom B w px rb db pv tv x pl) : B ≤ w.heap.size := by
  have := blk_lt h.blk; have := h.bpx; omega
theorem mom_new {B : Nat} {W : World} {px rb db : Nat} (h1 : B ≤ px) (h2 : B ≤ rb) (h3 : B ≤ db)
    (hp : W.heap[px]? = some (.cells #[.int .i64 0, .int .i64 0, .slice (some ⟨rb, 0, none⟩) 4 4, .slice none 0 0, .slice (some ⟨db, 0, none⟩) 16 16, .slice none 0 0, .int .i64 0] 116 (0, 0)))
    (hr : W.heap[rb]? = some (.cells #[.int .i64 0, .int .i64 0, .int .i64 0, .int .i64 0] 3 (0, 0)))
    (hd : W.heap[db]? = some (.cells #[.bool false, .bool false, .bool false, .bool false, .bool false, .bool false, .bool false, .bool false, .bool false, .bool false, .bool false, .bool false, .bool false, .bool false, .bool false, .bool false] 4 (0, 0))) :
    Mom B W px rb db (.slice none 0 0) (.slice none 0 0) mo0 [] :=
  { bpx := h1, brb := h2, bdb := h3
    blk := by simpa [momCells, mo0] using hp
    regs := by simpa [iv, mo0] using hr
    rlen := rfl
    read := by simpa [bv, mo0] using hd
    dlen := rfl
    puts := World.ownsRow_nil _ _ _ _
    told := World.ownsRow_nil _ _ _ _
    apart := by simp [Value.ownBlock]
    last := fun _ => rfl }
theorem heap3_0 (w : World) (a b c : Obj) : (((w.alloc a).alloc b).alloc c).drew.heap[w.heap.size]? = some a := by
  show (((w.alloc a).alloc b).alloc c).heap[w.heap.size]? = some a
  rw [Below.heap_alloc _ _ _ (by simp; omega), Below.heap_alloc _ _ _ (by simp)]
  exact heap_alloc_new w a
theorem heap3_1 (w : World) (a b c : Obj) : (((w.alloc a).alloc b).alloc c).drew.heap[w.heap.size + 1]? = some b := by
  show (((w.alloc a).alloc b).alloc c).heap[w.heap.size + 1]? = some b
  rw [Below.heap_alloc _ _ _ (by simp)]
  have := heap_alloc_new (w.alloc a) b
  rwa [World.size_alloc] at this
theorem heap3_2 (w : World) (a b c : Obj) : (((w.alloc a).alloc b).alloc c).drew.heap[w.heap.size + 1 + 1]? = some c := by
  have := heap_alloc_new ((w.alloc a).alloc b) c
  rw [World.size_alloc, World.size_alloc] at this
  exact this
theorem below3 (w : World) (a b c : Obj) : Below w.heap.size w (((w.alloc a).alloc b).alloc c).drew :=
  ((((Below.refl _ _).alloc (Nat.le_refl _) a).alloc (by simp) b).alloc (by simp; omega) c).drew
def Played (l : List St) (ml : List (Int × Int)) (n : Nat) (w : World) (e : Ending) (w' : World) : Prop := ∃ px rb db pv tv pl, e = .returned (.pointer (some ⟨px, 0, none⟩)) ∧
  Mom w.heap.size w' px rb db pv tv (play l (vIn ml) n mo0) pl ∧ pl.length ≤ n ∧ Below w.heap.size w w'
def PlayRel (l : List St) (ml : List (Int × Int)) (n : Nat) (w : World) (px : Nat) (gk : Nat) (wr : World) : Prop :=
  ∃ rb db pv tv x pl, Mom w.heap.size wr px rb db pv tv x pl ∧ MoOk l.length x ∧ x.done + gk = n ∧ pl.length ≤ x.done ∧ play l (vIn ml) gk x = play l (vIn ml) n mo0 ∧ Below w.heap.size w wr
theorem play_at (ao : Option Addr) (cap : Nat) (l : List St) (mv : Value) (ml : List (Int × Int)) (n : Nat) (w : World) (hj : jobB l = true) (hs : l = [] ∨ ∃ b off, ao = some ⟨b, off, none⟩ ∧ b < w.heap.size ∧ StepsAt w b off l) (hm : PairsV w w.heap.size mv ml) (hml : ∀ k, vIn ml k ≤ 9999) (hn : n ≤ 200) :
    Calls Tryz.prog 54 #[.slice ao l.length cap, mv, .int .i64 n] w fun e w' => Played l ml n w e w' := by
  have HJ : Hid (jobB l = true) := hj
  have HS : Hid (l = [] ∨ ∃ b off, ao = some ⟨b, off, none⟩ ∧ b < w.heap.size ∧ StepsAt w b off l) := hs
  have HM : Hid (PairsV w w.heap.size mv ml) := hm
  have HL : Hid (∀ k, vIn ml k ≤ 9999) := hml
  have hlen := (jobB_at hj).1
  obtain ⟨ln, hln⟩ : ∃ ln, ln = l.length := ⟨_, rfl⟩
  have HN : Hid (ln = l.length) := hln
  rw [← hln] at hlen ⊢
  clear hj hs hm hml hln
  have hmk : ∀ w, (Instr.makeSlice 55 (.int .i64 4) (.int .i64 4)).run Tryz.prog w = .ok (.slice (some ⟨w.heap.size, 0, none⟩) 4 4) (w.alloc (.cells #[.int .i64 0, .int .i64 0, .int .i64 0, .int .i64 0] 3)) := fun _ => by kernel_rfl
  have hmb : ∀ w, (Instr.makeSlice 114 (.int .i64 16) (.int .i64 16)).run Tryz.prog w = .ok (.slice (some ⟨w.heap.size, 0, none⟩) 16 16) (w.alloc (.cells #[.bool false, .bool false, .bool false, .bool false, .bool false, .bool false, .bool false, .bool false, .bool false, .bool false, .bool false, .bool false, .bool false, .bool false, .bool false, .bool false] 4)) := fun _ => by kernel_rfl
  go_enter Tryz.func54, Tryz.ntmps54
  go_wp2
  go_region
  all_goals
    go_wp2
    go_loopg [12] n (fun gk _ wr => PlayRel l ml n w (w.heap.size + 1 + 1) gk wr)
    case atStart =>
      first
        | exact ⟨w.heap.size, w.heap.size + 1, _, _, mo0, [], mom_new (by omega) (by omega) (by omega) (heap3_2 _ _ _ _) (heap3_0 _ _ _ _) (heap3_1 _ _ _ _), mo0_ok _, by simp [mo0], by simp, rfl, below3 _ _ _ _⟩
        | exact ⟨w.heap.size + 1, w.heap.size, _, _, mo0, [], mom_new (by omega) (by omega) (by omega) (heap3_2 _ _ _ _) (heap3_1 _ _ _ _) (heap3_0 _ _ _ _), mo0_ok _, by simp [mo0], by simp, rfl, below3 _ _ _ _⟩
    case round =>
      obtain ⟨rb, db, pv, tv, x, pl, hM, hok, hdone, hpl, hplay, hbel⟩ := hrel
      have c0 := hM.cPc
      have c1 := hM.cDone
      have c6 := hM.cFin
      have hfinish : Hid ((¬ (x.fin = 0 ∧ x.pc < l.length)) ∨ gk = 0 → Played l ml n w (.returned (.pointer (some ⟨w.heap.size + 1 + 1, 0, none⟩))) wr) := fun hq => by
        have e : play l (vIn ml) gk x = x := by
          rcases hq with hq | hq
          · exact play_end hq
          · subst hq; rfl
        exact ⟨_, rb, db, pv, tv, pl, rfl, hM.congr (e.symm.trans hplay), by omega, hbel⟩
      have HMom : Hid (Mom w.heap.size wr (w.heap.size + 1 + 1) rb db pv tv x pl) := hM
      have HOK : Hid (MoOk l.length x) := hok
      have HPL : Hid (play l (vIn ml) gk x = play l (vIn ml) n mo0) := hplay
      have HB : Hid (Below w.heap.size w wr) := hbel
      have hpcl := hok.pc
      rw [← HN.out] at hpcl
      clear hM hok hplay hbel
      by_cases hz : gk = 0
      · have hnd : ¬ ((x.done : Int) < (n : Int)) := by omega
        go_wp2
        go_ret
        exact hfinish.out (Or.inr hz)
      · have hnd : ((x.done : Int) < (n : Int)) := by omega
        by_cases hfin : x.fin = 0
        · by_cases hpc : x.pc < ln
          · have hpc' : x.pc < l.length := by rw [← HN.out]; exact hpc
            have hao : ∃ b off, ao = some ⟨b, off, none⟩ ∧ b < w.heap.size ∧ StepsAt w b off l := by
              rcases HS.out with h | h
              · subst h; simp at hpc'
              · exact h
            clear HS
            obtain ⟨b, off, rfl, hb, hst⟩ := hao
            obtain ⟨s0, s1, s2, s3⟩ := (hst.below HB.out hb) x.pc hpc'
            clear hst
            obtain ⟨s, hs'⟩ : ∃ s, s = l.getD x.pc stz := ⟨_, rfl⟩
            rw [← hs'] at s0 s1 s2 s3
            have HSt : Hid (s = l.getD x.pc stz) := hs'
            clear hs'
            have hstB : Hid (stB s x.pc l.length = true) := by rw [HSt.out]; exact (jobB_at HJ.out).2 _ hpc'
            have hlen' : Hid (l.length ≤ 32) := (jobB_at HJ.out).1
            have m1 : (0 : Int) ≤ (x.pc : Int) := by omega
            have m2 : (x.pc : Int) < (ln : Int) := by omega
            have hd1 : x.done ≤ 1000 := by omega
            go_wp2_with (go_at_call 80; refine (does_any w.heap.size _ (w.heap.size + 1 + 1) rb db pv tv x pl s _ ml l.length hlen'.out HOK.out hpc' hstB.out (HM.out.below HB.out (Nat.le_refl _)) HL.out hd1 hpl HMom.out).mono ?_; rintro e W2 ⟨rfl, pv', tv', pl', hM2, hpl2, hF2⟩)
            obtain ⟨g', rfl⟩ : ∃ g', gk = g' + 1 := ⟨gk - 1, by omega⟩
            go_roundg g'
            case measure => omega
            case rel =>
              refine ⟨rb, db, pv', tv', _, pl', hM2, ?_, ?_, ?_, ?_, HB.out.trans (hF2.below HMom.out.own_ge HMom.out.base_le)⟩
              · exact stp_ok HOK.out hpc' HL.out hstB.out
              · rw [stp_done]; omega
              · rw [stp_done]; omega
              · rw [← HPL.out, play_go ⟨hfin, hpc'⟩, HSt.out]
          · have m2 : ¬ ((x.pc : Int) < (ln : Int)) := by omega
            go_wp2
            go_ret
            exact hfinish.out (Or.inl (fun h => hpc (by rw [HN.out]; exact h.2)))
        · go_wp2
          go_ret
          exact hfinish.out (Or.inl (fun h => hfin h.1))
theorem play_any (v : Value) (l : List St) (mv : Value) (ml : List (Int × Int)) (n : Nat) (w : World) (hj : jobB l = true) (hs : StepsV w v l) (hm : PairsV w w.heap.size mv ml) (hml : ∀ k, vIn ml k ≤ 9999) (hn : n ≤ 200) :
    Calls Tryz.prog 54 #[v, mv, .int .i64 n] w fun e w' => Played l ml n w e w' := by
  obtain ⟨ao, cap, rfl, h⟩ := hs
  exact play_at ao cap l mv ml n w hj h hm hml hn
end Go.Proofs.YtlbmcdoldnajoaaGreat
