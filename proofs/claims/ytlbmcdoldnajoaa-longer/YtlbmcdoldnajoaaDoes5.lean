/- The document's own 'does': sums and counts. -/
import Derived.Test.YtlbmcdoldnajoaaSees
import Derived.Test.YtlbmcdoldnajoaaDoes1
namespace Go.Proofs.Ytlbmcdoldnajoaa
open Go.RowKit

theorem sumK_bd {f : Int → Int} (hf : ∀ k, f k ≤ 9999) (b : Int) : ∀ n : Nat, 0 ≤ sumK f b n ∧ sumK f b n ≤ 9999 * n
  | 0 => by simp [sumK]
  | n + 1 => by
    have ih := sumK_bd hf b n
    have := hf (b + n)
    simp only [sumK]
    split <;> omega
theorem cntK_bd (f : Int → Int) (b : Int) : ∀ n : Nat, 0 ≤ cntK f b n ∧ cntK f b n ≤ n
  | 0 => by simp [cntK]
  | n + 1 => by
    have ih := cntK_bd f b n
    simp only [cntK]
    split <;> omega

set_option maxRecDepth 100000 in
set_option maxHeartbeats 1000000 in
theorem does_5 (B : Nat) (w : World) (px rb db : Nat) (pv tv : Value) (x : Mo) (pl : List (Int × Int)) (a b c : Int) (mv : Value)  (hd : x.done ≤ 1000) (hpc : x.pc ≤ 1000)
    (h : Mom B w px rb db pv tv x pl) (ml : List (Int × Int)) (hm : PairsV w B mv ml) (hpl : pl.length ≤ 1000) (ha : 0 ≤ a) (ha' : a ≤ 3) (hb : 0 ≤ b) (hb' : b ≤ c) (hc : c ≤ 15) (hv : ∀ k, see (vIn ml) x.puts k ≤ 9999) :
    Calls Try.prog 106 #[.pointer (some ⟨px, 0, none⟩), .agg #[.int .i64 5, .int .i64 a, .int .i64 b, .int .i64 c], mv] w fun e w' => e = .returned (.tuple #[]) ∧ Mom B w' px rb db pv tv (stp ⟨5, a, b, c⟩ (vIn ml) x) pl ∧ Fr (mom3 px rb db) w w' := by
  have c0 := h.cPc
  have c1 := h.cDone
  have f0 := h.fPx 0
  have f1 := h.fPx 1
  have hlt := blk_lt h.blk
  have hlr := blk_lt h.regs
  have hld := blk_lt h.read
  have H : Hid (Mom B w px rb db pv tv x pl) := h
  have HP : Hid (PairsV w B mv ml) := hm
  have HV : Hid (∀ k, see (vIn ml) x.puts k ≤ 9999) := hv
  clear h hm hv
  go_enter Try.func106, Try.ntmps106
  go_wp2
  refine name_wp (boxed_head H.out) ?_
  rintro W ⟨hM, hbox, hF, hB⟩
  clear c0 c1 f0 f1
  have hn3 : ¬ mom3 px rb db w.heap.size := by rintro (e | e | e) <;> omega
  have HX : Hid (W.heap[w.heap.size]? = some (.cells #[.int .i64 5, .int .i64 a, .int .i64 b, .int .i64 c] 40 (0, 0))) := hbox
  have HM : Hid (Mom B W px rb db pv tv { x with done := x.done + 1, pc := x.pc + 1 } pl) := hM
  have HF : Hid (Fr (mom3 px rb db) w W) := hF
  have hge : ∀ k, mom3 px rb db k → B ≤ k := fun k hk => by rcases hk with rfl | rfl | rfl; exact hM.bpx; exact hM.brb; exact hM.bdb
  have HG : Hid (∀ k, mom3 px rb db k → B ≤ k) := hge
  have HN3 : Hid (¬ mom3 px rb db w.heap.size) := hn3
  have b2 : W.cell? ⟨w.heap.size, 2, none⟩ = some (.int .i64 b) := by rw [blk_cell hbox]; rfl
  have hWs := blk_lt hbox
  clear hM hbox hF hlt hlr hld hge hn3
  go_wp2
  go_loopw [7, 8, 9] (fun s m k wr => ∃ j : Nat, b + j ≤ c + 1 ∧ k = .int .i64 (b + j) ∧ s = .int .i64 (sumK (see (vIn ml) x.puts) b j) ∧ m = .int .i64 (cntK (see (vIn ml) x.puts) b j) ∧
      Mom B wr px rb db pv tv { x with done := x.done + 1, pc := x.pc + 1, read := markK x.puts x.read b j } pl ∧ Fr (mom3 px rb db) W wr) (fun _ _ k _ => (c + 1 - intOf k).toNat)
  case atStart => exact ⟨0, by omega, by simp, rfl, rfl, HM.out, Fr.refl _ _⟩
  case round =>
    obtain ⟨j, hj, rfl, rfl, rfl, hMj, hFj⟩ := hrel
    have hboxj := hFj.blk HX.out HN3.out
    have d0 : wr.cell? ⟨w.heap.size, 0, none⟩ = some (.int .i64 5) := by rw [blk_cell hboxj]; rfl
    have d1 : wr.cell? ⟨w.heap.size, 1, none⟩ = some (.int .i64 a) := by rw [blk_cell hboxj]; rfl
    have d3 : wr.cell? ⟨w.heap.size, 3, none⟩ = some (.int .i64 c) := by rw [blk_cell hboxj]; rfl
    have hsb := sumK_bd HV.out b j
    have hcb := cntK_bd (see (vIn ml) x.puts) b j
    have HMj : Hid (Mom B wr px rb db pv tv { x with done := x.done + 1, pc := x.pc + 1, read := markK x.puts x.read b j } pl) := hMj
    have HFj : Hid (Fr (mom3 px rb db) W wr) := hFj
    have hPj : Hid (PairsV wr B mv ml) := HP.out.below (((HF.out.trans hFj (fun _ _ h => h)).below HG.out hB)) (Nat.le_refl _)
    clear hMj hFj hboxj b2
    by_cases hlt : b + (j : Int) ≤ c
    · go_wp2_with (go_at_call 115; refine (sees_any B _ px rb db pv tv _ pl _ ml (b + j) hpl HMj.out hPj.out (by omega) (by omega)).mono ?_)
      rintro e W2 rfl hM2 hF2
      have hs1 : sumK (see (vIn ml) x.puts) b (j + 1) = sumK (see (vIn ml) x.puts) b j + if 0 ≤ see (vIn ml) x.puts (b + j) then see (vIn ml) x.puts (b + j) else 0 := rfl
      have hc1 : cntK (see (vIn ml) x.puts) b (j + 1) = cntK (see (vIn ml) x.puts) b j + if 0 ≤ see (vIn ml) x.puts (b + j) then 1 else 0 := rfl
      have hsv9 := HV.out (b + j)
      obtain ⟨sv, hsv⟩ : ∃ sv, sv = see (vIn ml) x.puts (b + j) := ⟨_, rfl⟩
      simp only [← hsv] at hs1 hc1 hsv9 ⊢
      have HS1 : Hid (sumK (see (vIn ml) x.puts) b (j + 1) = sumK (see (vIn ml) x.puts) b j + if 0 ≤ sv then sv else 0) := hs1
      have HC1 : Hid (cntK (see (vIn ml) x.puts) b (j + 1) = cntK (see (vIn ml) x.puts) b j + if 0 ≤ sv then 1 else 0) := hc1
      obtain ⟨su, hsu⟩ : ∃ su, su = sumK (see (vIn ml) x.puts) b j := ⟨_, rfl⟩
      obtain ⟨cn, hcn⟩ : ∃ cn, cn = cntK (see (vIn ml) x.puts) b j := ⟨_, rfl⟩
      simp only [← hsu, ← hcn] at hsb hcb ⊢
      rw [← hsu] at HS1
      rw [← hcn] at HC1
      have HM2 : Hid (Mom B W2 px rb db pv tv { x with done := x.done + 1, pc := x.pc + 1, read := markK x.puts x.read b (j + 1) } pl) := hM2
      have HF2 : Hid (Fr (mom3 px rb db) W W2) := HFj.out.trans hF2 (fun _ _ h => h)
      clear hM2 hF2 hs1 hc1 hsv hsu hcn d0 d1 d3
      by_cases hz : 0 ≤ sv
      · go_wp2
        go_roundw
        case rel => exact ⟨j + 1, by omega, by go_num, by rw [HS1.out, if_pos hz], by rw [HC1.out, if_pos hz], HM2.out, HF2.out⟩
        case measure => simp [intOf]; omega
      · go_wp2
        go_roundw
        case rel => exact ⟨j + 1, by omega, by go_num, by rw [HS1.out, if_neg (by omega)]; simp, by rw [HC1.out, if_neg (by omega)]; simp, HM2.out, HF2.out⟩
        case measure => simp [intOf]; omega
    · have ej : (c - b + 1).toNat = j := by omega
      have EJ : Hid ((c - b + 1).toNat = j) := ej
      clear ej
      go_wp2_with (go_at_call 116; refine (becomes_any B _ px rb db pv tv _ pl a (sumK (see (vIn ml) x.puts) b j) HMj.out ha ha').mono ?_)
      rintro e W2 rfl hM2 hF2
      go_wp2
      go_end0
      exact ⟨rfl, hM2.congr (by simp [stp, EJ.out]), (HF.out.trans HFj.out (fun _ _ h => h)).trans hF2 (fun _ _ h => h)⟩

set_option maxRecDepth 100000 in
set_option maxHeartbeats 1000000 in
theorem does_6 (B : Nat) (w : World) (px rb db : Nat) (pv tv : Value) (x : Mo) (pl : List (Int × Int)) (a b c : Int) (mv : Value)  (hd : x.done ≤ 1000) (hpc : x.pc ≤ 1000)
    (h : Mom B w px rb db pv tv x pl) (ml : List (Int × Int)) (hm : PairsV w B mv ml) (hpl : pl.length ≤ 1000) (ha : 0 ≤ a) (ha' : a ≤ 3) (hb : 0 ≤ b) (hb' : b ≤ c) (hc : c ≤ 15) (hv : ∀ k, see (vIn ml) x.puts k ≤ 9999) :
    Calls Try.prog 106 #[.pointer (some ⟨px, 0, none⟩), .agg #[.int .i64 6, .int .i64 a, .int .i64 b, .int .i64 c], mv] w fun e w' => e = .returned (.tuple #[]) ∧ Mom B w' px rb db pv tv (stp ⟨6, a, b, c⟩ (vIn ml) x) pl ∧ Fr (mom3 px rb db) w w' := by
  have c0 := h.cPc
  have c1 := h.cDone
  have f0 := h.fPx 0
  have f1 := h.fPx 1
  have hlt := blk_lt h.blk
  have hlr := blk_lt h.regs
  have hld := blk_lt h.read
  have H : Hid (Mom B w px rb db pv tv x pl) := h
  have HP : Hid (PairsV w B mv ml) := hm
  have HV : Hid (∀ k, see (vIn ml) x.puts k ≤ 9999) := hv
  clear h hm hv
  go_enter Try.func106, Try.ntmps106
  go_wp2
  refine name_wp (boxed_head H.out) ?_
  rintro W ⟨hM, hbox, hF, hB⟩
  clear c0 c1 f0 f1
  have hn3 : ¬ mom3 px rb db w.heap.size := by rintro (e | e | e) <;> omega
  have HX : Hid (W.heap[w.heap.size]? = some (.cells #[.int .i64 6, .int .i64 a, .int .i64 b, .int .i64 c] 40 (0, 0))) := hbox
  have HM : Hid (Mom B W px rb db pv tv { x with done := x.done + 1, pc := x.pc + 1 } pl) := hM
  have HF : Hid (Fr (mom3 px rb db) w W) := hF
  have hge : ∀ k, mom3 px rb db k → B ≤ k := fun k hk => by rcases hk with rfl | rfl | rfl; exact hM.bpx; exact hM.brb; exact hM.bdb
  have HG : Hid (∀ k, mom3 px rb db k → B ≤ k) := hge
  have HN3 : Hid (¬ mom3 px rb db w.heap.size) := hn3
  have b2 : W.cell? ⟨w.heap.size, 2, none⟩ = some (.int .i64 b) := by rw [blk_cell hbox]; rfl
  have hWs := blk_lt hbox
  clear hM hbox hF hlt hlr hld hge hn3
  go_wp2
  go_loopw [7, 8, 9] (fun s m k wr => ∃ j : Nat, b + j ≤ c + 1 ∧ k = .int .i64 (b + j) ∧ s = .int .i64 (sumK (see (vIn ml) x.puts) b j) ∧ m = .int .i64 (cntK (see (vIn ml) x.puts) b j) ∧
      Mom B wr px rb db pv tv { x with done := x.done + 1, pc := x.pc + 1, read := markK x.puts x.read b j } pl ∧ Fr (mom3 px rb db) W wr) (fun _ _ k _ => (c + 1 - intOf k).toNat)
  case atStart => exact ⟨0, by omega, by simp, rfl, rfl, HM.out, Fr.refl _ _⟩
  case round =>
    obtain ⟨j, hj, rfl, rfl, rfl, hMj, hFj⟩ := hrel
    have hboxj := hFj.blk HX.out HN3.out
    have d0 : wr.cell? ⟨w.heap.size, 0, none⟩ = some (.int .i64 6) := by rw [blk_cell hboxj]; rfl
    have d1 : wr.cell? ⟨w.heap.size, 1, none⟩ = some (.int .i64 a) := by rw [blk_cell hboxj]; rfl
    have d3 : wr.cell? ⟨w.heap.size, 3, none⟩ = some (.int .i64 c) := by rw [blk_cell hboxj]; rfl
    have hsb := sumK_bd HV.out b j
    have hcb := cntK_bd (see (vIn ml) x.puts) b j
    have HMj : Hid (Mom B wr px rb db pv tv { x with done := x.done + 1, pc := x.pc + 1, read := markK x.puts x.read b j } pl) := hMj
    have HFj : Hid (Fr (mom3 px rb db) W wr) := hFj
    have hPj : Hid (PairsV wr B mv ml) := HP.out.below (((HF.out.trans hFj (fun _ _ h => h)).below HG.out hB)) (Nat.le_refl _)
    clear hMj hFj hboxj b2
    by_cases hlt : b + (j : Int) ≤ c
    · go_wp2_with (go_at_call 115; refine (sees_any B _ px rb db pv tv _ pl _ ml (b + j) hpl HMj.out hPj.out (by omega) (by omega)).mono ?_)
      rintro e W2 rfl hM2 hF2
      have hs1 : sumK (see (vIn ml) x.puts) b (j + 1) = sumK (see (vIn ml) x.puts) b j + if 0 ≤ see (vIn ml) x.puts (b + j) then see (vIn ml) x.puts (b + j) else 0 := rfl
      have hc1 : cntK (see (vIn ml) x.puts) b (j + 1) = cntK (see (vIn ml) x.puts) b j + if 0 ≤ see (vIn ml) x.puts (b + j) then 1 else 0 := rfl
      have hsv9 := HV.out (b + j)
      obtain ⟨sv, hsv⟩ : ∃ sv, sv = see (vIn ml) x.puts (b + j) := ⟨_, rfl⟩
      simp only [← hsv] at hs1 hc1 hsv9 ⊢
      have HS1 : Hid (sumK (see (vIn ml) x.puts) b (j + 1) = sumK (see (vIn ml) x.puts) b j + if 0 ≤ sv then sv else 0) := hs1
      have HC1 : Hid (cntK (see (vIn ml) x.puts) b (j + 1) = cntK (see (vIn ml) x.puts) b j + if 0 ≤ sv then 1 else 0) := hc1
      obtain ⟨su, hsu⟩ : ∃ su, su = sumK (see (vIn ml) x.puts) b j := ⟨_, rfl⟩
      obtain ⟨cn, hcn⟩ : ∃ cn, cn = cntK (see (vIn ml) x.puts) b j := ⟨_, rfl⟩
      simp only [← hsu, ← hcn] at hsb hcb ⊢
      rw [← hsu] at HS1
      rw [← hcn] at HC1
      have HM2 : Hid (Mom B W2 px rb db pv tv { x with done := x.done + 1, pc := x.pc + 1, read := markK x.puts x.read b (j + 1) } pl) := hM2
      have HF2 : Hid (Fr (mom3 px rb db) W W2) := HFj.out.trans hF2 (fun _ _ h => h)
      clear hM2 hF2 hs1 hc1 hsv hsu hcn d0 d1 d3
      by_cases hz : 0 ≤ sv
      · go_wp2
        go_roundw
        case rel => exact ⟨j + 1, by omega, by go_num, by rw [HS1.out, if_pos hz], by rw [HC1.out, if_pos hz], HM2.out, HF2.out⟩
        case measure => simp [intOf]; omega
      · go_wp2
        go_roundw
        case rel => exact ⟨j + 1, by omega, by go_num, by rw [HS1.out, if_neg (by omega)]; simp, by rw [HC1.out, if_neg (by omega)]; simp, HM2.out, HF2.out⟩
        case measure => simp [intOf]; omega
    · have ej : (c - b + 1).toNat = j := by omega
      have EJ : Hid ((c - b + 1).toNat = j) := ej
      clear ej
      go_wp2_with (go_at_call 116; refine (becomes_any B _ px rb db pv tv _ pl a (cntK (see (vIn ml) x.puts) b j) HMj.out ha ha').mono ?_)
      rintro e W2 rfl hM2 hF2
      go_wp2
      go_end0
      exact ⟨rfl, hM2.congr (by simp [stp, EJ.out]), (HF.out.trans HFj.out (fun _ _ h => h)).trans hF2 (fun _ _ h => h)⟩

end Go.Proofs.Ytlbmcdoldnajoaa
