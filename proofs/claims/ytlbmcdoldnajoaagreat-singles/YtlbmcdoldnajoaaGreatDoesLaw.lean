import Derived.Test.YtlbmcdoldnajoaaGreatOk
import Derived.Deep.RegionHeld3
import Derived.Deep.DrawnRows
import Derived.Deep.QuietTactic
import Derived.BigQuiet
import Derived.StillTailTactics
import Derived.Deep.RegionLaw
import Derived.Deep.AppendLies
set_option maxRecDepth 100000
set_option maxHeartbeats 1000000
namespace Go.Proofs.YtlbmcdoldnajoaaGreat
open Go.RowKit
theorem lastP_skip (l m : List (Int × Int)) (k : Int) (h : ∀ p ∈ m, p.1 ≠ k) : lastP (l ++ m) k = lastP l k := by
  induction m generalizing l with
  | nil => simp
  | cons p r ih =>
    have e : l ++ p :: r = (l ++ [p]) ++ r := by simp
    rw [e, ih _ (fun q hq => h q (by simp [hq])), lastP_snoc, if_neg (h p (by simp))]
theorem lastP_at {l : List (Int × Int)} {k : Int} {n : Nat} (hn : n < l.length) (hk : (l.getD n pz).1 = k) (h : ∀ t, n < t → t < l.length → (l.getD t pz).1 ≠ k) : lastP l k = some (l.getD n pz).2 := by
  have e : l = l.take n ++ [l[n]] ++ l.drop (n + 1) := by
    rw [List.append_assoc, List.singleton_append, ← List.drop_eq_getElem_cons hn, List.take_append_drop]
  have e2 : l.getD n pz = l[n] := by simp [List.getD, hn]
  rw [e2] at hk ⊢
  have e3 : lastP (l.take n ++ [l[n]] ++ l.drop (n + 1)) k = some l[n].2 := by
    rw [lastP_skip, lastP_snoc, if_pos hk]
    intro p hp
    obtain ⟨i, hi, rfl⟩ := List.getElem_of_mem hp
    simp at hi
    have := h (n + 1 + i) (by omega) (by omega)
    simpa [List.getD, show n + 1 + i < l.length by omega] using this
  rw [← e] at e3
  exact e3
theorem lastP_none {l : List (Int × Int)} {k : Int} (h : ∀ t, t < l.length → (l.getD t pz).1 ≠ k) : lastP l k = none := by
  have := lastP_skip [] l k (fun p hp => by
    obtain ⟨i, hi, rfl⟩ := List.getElem_of_mem hp
    simpa [List.getD, hi] using h i hi)
  simpa [lastP_nil] using this
theorem owns_pairs {w : World} {base : Nat} {v : Value} {pl : List (Int × Int)} {e : TypeId} (h : w.ownsRow base e 2 v pl.length (prCells pl)) :
    ∃ ao cap, v = .slice ao pl.length cap ∧ ((pl = [] ∧ ao = none) ∨ ∃ g, ao = some ⟨g, 0, none⟩ ∧ base ≤ g ∧ g < w.heap.size ∧ PairsAt w g 0 pl) := by
  rcases h.2 with ⟨rfl, h0⟩ | ⟨g, cap, cur, rfl, hb, hh, hn, _, hs, ht⟩
  · have : pl = [] := List.eq_nil_of_length_eq_zero h0
    subst this
    exact ⟨none, 0, rfl, Or.inl ⟨rfl, rfl⟩⟩
  · refine ⟨_, cap, rfl, Or.inr ⟨g, rfl, hb, blk_lt hh, fun i hi => ?_⟩⟩
    obtain ⟨g0, g1⟩ := prCells_get pl i hi
    rw [← ht] at g0 g1
    rw [List.getElem?_take_of_lt (by omega)] at g0 g1
    rw [blk_cell hh, blk_cell hh, Nat.zero_add]
    exact ⟨by simpa using g0, by simpa using g1⟩
theorem sees_at (B : Nat) (w : World) (px rb db : Nat) (g cap : Nat) (tv : Value) (x : Mo) (pl : List (Int × Int)) (mv : Value) (ml : List (Int × Int)) (k : Int) (n : Nat) (hn : n = pl.length) (hn1 : n ≤ 1000)
    (h : Mom B w px rb db (.slice (some ⟨g, 0, none⟩) n cap) tv x pl) (hp : PairsAt w g 0 pl) (hm : PairsV w B mv ml) (hk : 0 ≤ k) (hk' : k ≤ 15) :
    Calls Tryz.prog 90 #[.pointer (some ⟨px, 0, none⟩), mv, .int .i64 k] w fun e w' => e = .returned (.int .i64 (see (vIn ml) x.puts k)) ∧ Mom B w' px rb db (.slice (some ⟨g, 0, none⟩) n cap) tv { x with read := mark x.puts x.read k } pl ∧ Fr (mom3 px rb db) w w' := by
  obtain ⟨kn, rfl⟩ : ∃ kn : Nat, k = kn := ⟨k.toNat, by omega⟩
  have c3 := h.cPuts
  have c4 := h.cRead
  have cd := h.cD (a := kn) (by omega)
  have fd := h.fDb kn
  have H : Hid (Mom B w px rb db (.slice (some ⟨g, 0, none⟩) n cap) tv x pl) := h
  have HM : Hid (PairsV w B mv ml) := hm
  have HN : Hid (n = pl.length) := hn
  clear h hm hn
  go_enter Tryz.func90, Tryz.ntmps90
  go_wp2
  go_loop [7] (fun i => ∃ j : Nat, j ≤ n ∧ i = .int .i64 ((j : Int) - 1) ∧ (∀ t, j ≤ t → t < n → (pl.getD t pz).1 ≠ kn)) (fun i => (intOf i + 1).toNat)
  case atStart => exact ⟨n, Nat.le_refl _, rfl, fun t h1 h2 => by omega⟩
  case round =>
    obtain ⟨j, hj, rfl, hall⟩ := hrel
    have HA : Hid (∀ t, j ≤ t → t < n → (pl.getD t pz).1 ≠ kn) := hall
    clear hall
    match j, hj, HA with
    | 0, _, HA =>
      have e0 : ((0 : Nat) : Int) - 1 = -1 := by omega
      rw [e0]
      go_wp2_with (go_at_call 81; refine (valueIn_any _ B ml _ _ (HM.out.below ((Below.refl B _).setCell (p := ⟨db, _, none⟩) H.out.bdb _) (Nat.le_refl _))).mono ?_; rintro e w' ⟨rfl, rfl⟩)
      go_ret
      have hnone : x.puts kn = none := by rw [← H.out.last]; exact lastP_none (fun t ht => HA.out t (Nat.zero_le _) (by have := HN.out; omega))
      refine ⟨ret_int (by simp [see, hnone]), (H.out.setD kn true).congr (by simp [mark, hnone]), (Fr.refl _ _).setCell (p := ⟨db, _, none⟩) (fun _ => Or.inr (Or.inr rfl)) _⟩
    | j + 1, hj, HA =>
      have hlt' : j < pl.length := by rw [← HN.out]; omega
      obtain ⟨c0, c1⟩ := hp j hlt'
      obtain ⟨p, hp'⟩ : ∃ p, p = pl.getD j pz := ⟨_, rfl⟩
      rw [← hp'] at c0 c1
      rw [Nat.zero_add] at c0 c1
      have HP : Hid (p = pl.getD j pz) := hp'
      clear hp'
      obtain ⟨p1, p2⟩ := p
      simp only at c0 c1
      have ej : ((j + 1 : Nat) : Int) - 1 = (j : Int) := by omega
      rw [ej]
      have hjn : j < n := by omega
      by_cases hkk : p1 = kn
      · subst hkk
        go_wp2
        go_ret
        have hsome : x.puts kn = some p2 := by
          rw [← H.out.last, lastP_at hlt' (by rw [← HP.out]) (fun t h1 h2 => HA.out t h1 (by have := HN.out; omega)), ← HP.out]
        refine ⟨ret_int (by simp [see, hsome]), H.out.congr (by simp [mark, hsome]), Fr.refl _ _⟩
      · go_wp2
        go_round
        case rel =>
          refine ⟨j, by omega, by go_num, fun t h1 h2 => ?_⟩
          by_cases htj : t = j
          · subst htj; rw [← HP.out]; exact hkk
          · exact HA.out t (by omega) h2
        case measure => simp [intOf]
theorem sees_none (B : Nat) (w : World) (px rb db : Nat) (tv : Value) (x : Mo) (cap : Nat) (mv : Value) (ml : List (Int × Int)) (k : Int)
    (h : Mom B w px rb db (.slice none 0 cap) tv x []) (hm : PairsV w B mv ml) (hk : 0 ≤ k) (hk' : k ≤ 15) :
    Calls Tryz.prog 90 #[.pointer (some ⟨px, 0, none⟩), mv, .int .i64 k] w fun e w' => e = .returned (.int .i64 (see (vIn ml) x.puts k)) ∧ Mom B w' px rb db (.slice none 0 cap) tv { x with read := mark x.puts x.read k } [] ∧ Fr (mom3 px rb db) w w' := by
  obtain ⟨kn, rfl⟩ : ∃ kn : Nat, k = kn := ⟨k.toNat, by omega⟩
  have c3 := h.cPuts
  have c4 := h.cRead
  have cd := h.cD (a := kn) (by omega)
  have fd := h.fDb kn
  have H : Hid (Mom B w px rb db (.slice none 0 cap) tv x []) := h
  have HM : Hid (PairsV w B mv ml) := hm
  clear h hm
  go_enter Tryz.func90, Tryz.ntmps90
  go_wp2
  go_loop [7] (fun i => i = .int .i64 (-1)) (fun _ => 0)
  case atStart => rfl
  case round =>
    subst hrel
    go_wp2_with (go_at_call 81; refine (valueIn_any _ B ml _ _ (HM.out.below ((Below.refl B _).setCell (p := ⟨db, _, none⟩) H.out.bdb _) (Nat.le_refl _))).mono ?_; rintro e w' ⟨rfl, rfl⟩)
    go_ret
    have hnone : x.puts kn = none := by rw [← H.out.last]; rfl
    refine ⟨ret_int (by simp [see, hnone]), (H.out.setD kn true).congr (by simp [mark, hnone]), (Fr.refl _ _).setCell (p := ⟨db, _, none⟩) (fun _ => Or.inr (Or.inr rfl)) _⟩
theorem sees_any (B : Nat) (w : World) (px rb db : Nat) (pv tv : Value) (x : Mo) (pl : List (Int × Int)) (mv : Value) (ml : List (Int × Int)) (k : Int) (hn1 : pl.length ≤ 1000)
    (h : Mom B w px rb db pv tv x pl) (hm : PairsV w B mv ml) (hk : 0 ≤ k) (hk' : k ≤ 15) :
    Calls Tryz.prog 90 #[.pointer (some ⟨px, 0, none⟩), mv, .int .i64 k] w fun e w' => e = .returned (.int .i64 (see (vIn ml) x.puts k)) ∧ Mom B w' px rb db pv tv { x with read := mark x.puts x.read k } pl ∧ Fr (mom3 px rb db) w w' := by
  obtain ⟨ao, cap, rfl, ⟨rfl, rfl⟩ | ⟨g, rfl, _, _, hp⟩⟩ := owns_pairs h.puts
  · exact sees_none B w px rb db tv x cap mv ml k h hm hk hk'
  · exact sees_at B w px rb db g cap tv x pl mv ml k _ rfl hn1 h hp hm hk hk'
end Go.Proofs.YtlbmcdoldnajoaaGreat
namespace Go.Proofs.YtlbmcdoldnajoaaGreat
open Go.RowKit
attribute [local go_sem ↓] Go.wp_at_zero Go.wp_at_succ
theorem name_wp {P : Program} {c : Code} {Q : Exit → Act → World → Prop} {a : Act} {W : World} {p : World → Prop} (h : p W) (k : ∀ W', p W' → Code.wp P c Q a W') : Code.wp P c Q a W := k W h
theorem name_calls {P : Program} {f : FuncId} {args : Array Value} {R : Ending → World → Prop} {W : World} {p : World → Prop} (h : p W) (k : ∀ W', p W' → Calls P f args W' R) : Calls P f args W R := k W h
def Boxed (B : Nat) (w : World) (px rb db : Nat) (pv tv : Value) (x : Mo) (pl : List (Int × Int)) (op a b c : Int) (W : World) : Prop :=
  Mom B W px rb db pv tv { x with done := x.done + 1, pc := x.pc + 1 } pl ∧ W.heap[w.heap.size]? = some (.cells #[.int .i64 op, .int .i64 a, .int .i64 b, .int .i64 c] 95 (0, 0)) ∧ Fr (mom3 px rb db) w W ∧ B ≤ w.heap.size
theorem boxed_head {B : Nat} {w : World} {px rb db : Nat} {pv tv : Value} {x : Mo} {pl : List (Int × Int)} {op a b c : Int} (h : Mom B w px rb db pv tv x pl) :
    Boxed B w px rb db pv tv x pl op a b c (((w.setCell ⟨px, 1, none⟩ (.int .i64 ((x.done : Int) + 1))).setCell ⟨px, 0, none⟩ (.int .i64 ((x.pc : Int) + 1))).alloc (.cells #[.int .i64 op, .int .i64 a, .int .i64 b, .int .i64 c] 95)) := by
  have h1 := ((h.setDone (x.done + 1)).setPc (x.pc + 1)).alloc (.cells #[.int .i64 op, .int .i64 a, .int .i64 b, .int .i64 c] 95)
  refine ⟨by simpa using h1, ?_, (((Fr.refl _ _).setCell (p := ⟨px, _, none⟩) (fun _ => Or.inl rfl) _).setCell (p := ⟨px, _, none⟩) (fun _ => Or.inl rfl) _).alloc _, by have := blk_lt h.blk; have := h.bpx; omega⟩
  have e : w.heap.size = ((w.setCell ⟨px, 1, none⟩ (.int .i64 ((x.done : Int) + 1))).setCell ⟨px, 0, none⟩ (.int .i64 ((x.pc : Int) + 1))).heap.size := by simp
  rw [e]
  exact heap_alloc_new _ _
theorem does_1 (B : Nat) (w : World) (px rb db : Nat) (pv tv : Value) (x : Mo) (pl : List (Int × Int)) (a b c : Int) (mv : Value) (m : Int → Int) (hd : x.done ≤ 1000) (hpc : x.pc ≤ 1000)
    (h : Mom B w px rb db pv tv x pl) (ha : 0 ≤ a) (ha' : a ≤ 3) :
    Calls Tryz.prog 80 #[.pointer (some ⟨px, 0, none⟩), .agg #[.int .i64 1, .int .i64 a, .int .i64 b, .int .i64 c], mv] w fun e w' => e = .returned (.tuple #[]) ∧ Mom B w' px rb db pv tv (stp ⟨1, a, b, c⟩ m x) pl ∧ Fr (mom3 px rb db) w w' := by
  obtain ⟨n, rfl⟩ : ∃ n : Nat, a = n := ⟨a.toNat, by omega⟩
  have c0 := h.cPc
  have c1 := h.cDone
  have f0 := h.fPx 0
  have f1 := h.fPx 1
  have hlt := blk_lt h.blk
  have H : Hid (Mom B w px rb db pv tv x pl) := h
  clear h
  go_enter Tryz.func80, Tryz.ntmps80
  go_wp2
  refine name_wp (boxed_head H.out) ?_
  rintro W ⟨hM, hbox, hF, hB⟩
  clear c0 c1 f0 f1 hlt
  have c2 := hM.cRegs
  have cr := hM.cReg (a := n) (by omega)
  have fr := hM.fRb n
  have b1 : W.cell? ⟨w.heap.size, 1, none⟩ = some (.int .i64 (n : Int)) := by rw [blk_cell hbox]; rfl
  have b2 : W.cell? ⟨w.heap.size, 2, none⟩ = some (.int .i64 b) := by rw [blk_cell hbox]; rfl
  have HM : Hid (Mom B W px rb db pv tv { x with done := x.done + 1, pc := x.pc + 1 } pl) := hM
  clear hM hbox
  go_region
  go_wp2
  go_end0
  exact ⟨rfl, ((HM.out.setR n b).drew).congr (by simp [stp, setReg]), (hF.setCell (p := ⟨rb, _, none⟩) (fun _ => Or.inr (Or.inl rfl)) _).drew⟩
theorem does_12 (B : Nat) (w : World) (px rb db : Nat) (pv tv : Value) (x : Mo) (pl : List (Int × Int)) (a b c : Int) (mv : Value) (m : Int → Int) (hd : x.done ≤ 1000) (hpc : x.pc ≤ 1000)
    (h : Mom B w px rb db pv tv x pl) :
    Calls Tryz.prog 80 #[.pointer (some ⟨px, 0, none⟩), .agg #[.int .i64 12, .int .i64 a, .int .i64 b, .int .i64 c], mv] w fun e w' => e = .returned (.tuple #[]) ∧ Mom B w' px rb db pv tv (stp ⟨12, a, b, c⟩ m x) pl ∧ Fr (mom3 px rb db) w w' := by
  have c6 := h.cFin
  have f6 := h.fPx 6
  have c0 := h.cPc
  have c1 := h.cDone
  have f0 := h.fPx 0
  have f1 := h.fPx 1
  have hlt := blk_lt h.blk
  have hlr := blk_lt h.regs
  have hld := blk_lt h.read
  have H : Hid (Mom B w px rb db pv tv x pl) := h
  clear h
  go_enter Tryz.func80, Tryz.ntmps80
  go_wp2
  go_end0
  obtain ⟨hM, _, hF, _⟩ := boxed_head (op := 12) (a := a) (b := b) (c := c) H.out
  have hW := (((H.out.setDone (x.done + 1)).setPc (x.pc + 1)).setFin 4).alloc (.cells #[.int .i64 12, .int .i64 a, .int .i64 b, .int .i64 c] 95)
  refine ⟨rfl, ?_, ((((Fr.refl _ _).setCell (p := ⟨px, _, none⟩) (fun _ => Or.inl rfl) _).setCell (p := ⟨px, _, none⟩) (fun _ => Or.inl rfl) _).setCell (p := ⟨px, _, none⟩) (fun _ => Or.inl rfl) _).alloc _⟩
  have e1 : ((x.done + 1 : Nat) : Int) = (x.done : Int) + 1 := by omega
  have e2 : ((x.pc + 1 : Nat) : Int) = (x.pc : Int) + 1 := by omega
  rw [e1, e2] at hW
  exact hW.congr (by simp [stp])
theorem does_9 (B : Nat) (w : World) (px rb db : Nat) (pv tv : Value) (x : Mo) (pl : List (Int × Int)) (a b c : Int) (mv : Value) (m : Int → Int) (hd : x.done ≤ 1000) (hpc : x.pc ≤ 1000)
    (h : Mom B w px rb db pv tv x pl) (ha : 0 ≤ a) (ha' : a ≤ 3) (hb : 1 ≤ b) (hb' : b ≤ 32) :
    Calls Tryz.prog 80 #[.pointer (some ⟨px, 0, none⟩), .agg #[.int .i64 9, .int .i64 a, .int .i64 b, .int .i64 c], mv] w fun e w' => e = .returned (.tuple #[]) ∧ Mom B w' px rb db pv tv (stp ⟨9, a, b, c⟩ m x) pl ∧ Fr (mom3 px rb db) w w' := by
  obtain ⟨n, rfl⟩ : ∃ n : Nat, a = n := ⟨a.toNat, by omega⟩
  obtain ⟨bn, rfl⟩ : ∃ bn : Nat, b = bn := ⟨b.toNat, by omega⟩
  have c0 := h.cPc
  have c1 := h.cDone
  have f0 := h.fPx 0
  have f1 := h.fPx 1
  have hlt := blk_lt h.blk
  have hlr := blk_lt h.regs
  have hld := blk_lt h.read
  have H : Hid (Mom B w px rb db pv tv x pl) := h
  clear h
  go_enter Tryz.func80, Tryz.ntmps80
  go_wp2
  refine name_wp (boxed_head H.out) ?_
  rintro W ⟨hM, hbox, hF, hB⟩
  clear c0 c1 f0 f1
  have b1 : W.cell? ⟨w.heap.size, 1, none⟩ = some (.int .i64 (n : Int)) := by rw [blk_cell hbox]; rfl
  have b2 : W.cell? ⟨w.heap.size, 2, none⟩ = some (.int .i64 (bn : Int)) := by rw [blk_cell hbox]; rfl
  have HM : Hid (Mom B W px rb db pv tv { x with done := x.done + 1, pc := x.pc + 1 } pl) := hM
  have c2 := hM.cRegs
  have cr := hM.cReg (a := n) (by omega)
  have cp := hM.cPc
  have fp := hM.fPx 0
  clear hM hbox hlr hld hlt
  simp only at cr cp
  obtain ⟨r, hr⟩ : ∃ r, r = x.regs.getD n 0 := ⟨_, rfl⟩
  rw [← hr] at cr
  have HR : Hid (r = x.regs.getD n 0) := hr
  clear hr
  go_quiet (fail)
  by_cases hz : r = 0
  · go_wp2
    go_region
    go_wp2
    go_end0
    have hz' : (x.regs.getD n 0) = 0 := by rw [← HR.out]; exact hz
    have e : (x.pc : Int) + 1 + (bn : Int) = ((x.pc + 1 + bn : Nat) : Int) := by omega
    rw [e]
    exact ⟨rfl, ((HM.out.drewN _).setPc (x.pc + 1 + bn)).congr (by simp only [stp, reg, Int.toNat_natCast]; simp [hz', -List.getD_eq_getElem?_getD]), (hF.drewN _).setCell (p := ⟨px, _, none⟩) (fun _ => Or.inl rfl) _⟩
  · go_wp2
    go_end0
    have hz' : ¬ (x.regs.getD n 0) = 0 := by rw [← HR.out]; exact hz
    exact ⟨rfl, (HM.out.drewN _).congr (by simp only [stp, reg, Int.toNat_natCast]; simp [hz', -List.getD_eq_getElem?_getD]), hF.drewN _⟩
theorem does_10 (B : Nat) (w : World) (px rb db : Nat) (pv tv : Value) (x : Mo) (pl : List (Int × Int)) (a b c : Int) (mv : Value) (m : Int → Int) (hd : x.done ≤ 1000) (hpc : x.pc ≤ 1000)
    (h : Mom B w px rb db pv tv x pl) (ha : 0 ≤ a) (ha' : a ≤ 3) (hb : 1 ≤ b) (hb' : b ≤ x.pc) :
    Calls Tryz.prog 80 #[.pointer (some ⟨px, 0, none⟩), .agg #[.int .i64 10, .int .i64 a, .int .i64 b, .int .i64 c], mv] w fun e w' => e = .returned (.tuple #[]) ∧ Mom B w' px rb db pv tv (stp ⟨10, a, b, c⟩ m x) pl ∧ Fr (mom3 px rb db) w w' := by
  obtain ⟨n, rfl⟩ : ∃ n : Nat, a = n := ⟨a.toNat, by omega⟩
  obtain ⟨bn, rfl⟩ : ∃ bn : Nat, b = bn := ⟨b.toNat, by omega⟩
  have c0 := h.cPc
  have c1 := h.cDone
  have f0 := h.fPx 0
  have f1 := h.fPx 1
  have hlt := blk_lt h.blk
  have hlr := blk_lt h.regs
  have hld := blk_lt h.read
  have H : Hid (Mom B w px rb db pv tv x pl) := h
  clear h
  go_enter Tryz.func80, Tryz.ntmps80
  go_wp2
  refine name_wp (boxed_head H.out) ?_
  rintro W ⟨hM, hbox, hF, hB⟩
  clear c0 c1 f0 f1
  have b1 : W.cell? ⟨w.heap.size, 1, none⟩ = some (.int .i64 (n : Int)) := by rw [blk_cell hbox]; rfl
  have b2 : W.cell? ⟨w.heap.size, 2, none⟩ = some (.int .i64 (bn : Int)) := by rw [blk_cell hbox]; rfl
  have HM : Hid (Mom B W px rb db pv tv { x with done := x.done + 1, pc := x.pc + 1 } pl) := hM
  have c2 := hM.cRegs
  have cr := hM.cReg (a := n) (by omega)
  have cp := hM.cPc
  have fp := hM.fPx 0
  clear hM hbox hlr hld hlt
  simp only at cr cp
  obtain ⟨r, hr⟩ : ∃ r, r = x.regs.getD n 0 := ⟨_, rfl⟩
  rw [← hr] at cr
  have HR : Hid (r = x.regs.getD n 0) := hr
  clear hr
  go_quiet (fail)
  by_cases hz : 0 < r
  · go_wp2
    go_region
    go_wp2
    go_end0
    have hz' : 0 < x.regs.getD n 0 := by rw [← HR.out]; exact hz
    have e : (x.pc : Int) + 1 - (bn : Int) - 1 = ((x.pc + 1 - bn - 1 : Nat) : Int) := by omega
    rw [e]
    exact ⟨rfl, ((HM.out.drewN _).setPc (x.pc + 1 - bn - 1)).congr (by simp only [stp, reg, Int.toNat_natCast]; simp [hz', -List.getD_eq_getElem?_getD]), (hF.drewN _).setCell (p := ⟨px, _, none⟩) (fun _ => Or.inl rfl) _⟩
  · go_wp2
    go_end0
    have hz' : ¬ 0 < x.regs.getD n 0 := by rw [← HR.out]; omega
    exact ⟨rfl, (HM.out.drewN _).congr (by simp only [stp, reg, Int.toNat_natCast]; simp [hz', -List.getD_eq_getElem?_getD]), hF.drewN _⟩
end Go.Proofs.YtlbmcdoldnajoaaGreat
namespace Go.Proofs.YtlbmcdoldnajoaaGreat
open Go.RowKit
attribute [local go_sem ↓] Go.wp_at_zero Go.wp_at_succ
theorem wp_tail {id : Nat} {Q : Exit → Act → World → Prop} {a : Act} {w : World} {l : List Oper} (n : Nat) (hB : Region.lexTailB .any l.toArray n = true)
    (h : wpStill Tryz.prog l.toArray w.drew (fun a' => wpList Tryz.prog l.toArray Q (l.drop n) a' w.drew) (l.take n) a) : (Code.region id l.toArray true).wp Tryz.prog Q a w := wp_region_still_tail n (by kernel_rfl) hB h
theorem reg_bd {l : List Int} (h : ∀ r ∈ l, 0 ≤ r ∧ r ≤ 9999) (hl : l.length = 4) {a : Nat} (ha : a < 4) : 0 ≤ l.getD a 0 ∧ l.getD a 0 ≤ 9999 := by
  have e : l.getD a 0 = l[a]'(by omega) := by simp [List.getD, show a < l.length by omega]
  rw [e]
  exact h _ (List.getElem_mem _)
theorem does_2 (B : Nat) (w : World) (px rb db : Nat) (pv tv : Value) (x : Mo) (pl : List (Int × Int)) (a b c : Int) (mv : Value)  (hd : x.done ≤ 1000) (hpc : x.pc ≤ 1000)
    (h : Mom B w px rb db pv tv x pl) (ml : List (Int × Int)) (hm : PairsV w B mv ml) (hpl : pl.length ≤ 1000) (ha : 0 ≤ a) (ha' : a ≤ 3) (hb : 0 ≤ b) (hb' : b ≤ 15) :
    Calls Tryz.prog 80 #[.pointer (some ⟨px, 0, none⟩), .agg #[.int .i64 2, .int .i64 a, .int .i64 b, .int .i64 c], mv] w fun e w' => e = .returned (.tuple #[]) ∧ Mom B w' px rb db pv tv (stp ⟨2, a, b, c⟩ (vIn ml) x) pl ∧ Fr (mom3 px rb db) w w' := by
  obtain ⟨n, rfl⟩ : ∃ n : Nat, a = n := ⟨a.toNat, by omega⟩
  have c0 := h.cPc
  have c1 := h.cDone
  have f0 := h.fPx 0
  have f1 := h.fPx 1
  have hlt := blk_lt h.blk
  have hlr := blk_lt h.regs
  have hld := blk_lt h.read
  have H : Hid (Mom B w px rb db pv tv x pl) := h
  have HP : Hid (PairsV w B mv ml) := hm
  clear h hm
  go_enter Tryz.func80, Tryz.ntmps80
  go_wp2_with fail
  refine name_calls (boxed_head H.out) ?_
  rintro W ⟨hM, hbox, hF, hB⟩
  clear c0 c1 f0 f1
  have b1 : W.cell? ⟨w.heap.size, 1, none⟩ = some (.int .i64 (n : Int)) := by rw [blk_cell hbox]; rfl
  have b2 : W.cell? ⟨w.heap.size, 2, none⟩ = some (.int .i64 b) := by rw [blk_cell hbox]; rfl
  have HM : Hid (Mom B W px rb db pv tv { x with done := x.done + 1, pc := x.pc + 1 } pl) := hM
  have hP : PairsV W B mv ml := HP.out.below (hF.below (fun k hk => by rcases hk with rfl | rfl | rfl; exact H.out.bpx; exact H.out.brb; exact H.out.bdb) hB) (Nat.le_refl _)
  have HP2 : Hid (PairsV W B mv ml) := hP
  have HX : Hid (W.heap[w.heap.size]? = some (.cells #[.int .i64 2, .int .i64 (n : Int), .int .i64 b, .int .i64 c] 95 (0, 0))) := hbox
  clear hM hbox hP
  refine (sees_any B _ px rb db pv tv _ pl _ ml b hpl HM.out HP2.out hb hb').mono ?_
  rintro e W2 ⟨rfl, hM2, hF2⟩
  obtain ⟨sv, hsv⟩ : ∃ sv, sv = see (vIn ml) x.puts b := ⟨_, rfl⟩
  have HV : Hid (sv = see (vIn ml) x.puts b) := hsv
  simp only [← hsv]
  have hn3 : ¬ mom3 px rb db w.heap.size := by rintro (e | e | e) <;> omega
  have hbox2 := hF2.blk HX.out hn3
  have d1 : W2.cell? ⟨w.heap.size, 1, none⟩ = some (.int .i64 (n : Int)) := by rw [blk_cell hbox2]; rfl
  have c2 := hM2.cRegs
  have cr := hM2.cReg (a := n) (by omega)
  have fr := hM2.fRb n
  have HM2 : Hid (Mom B W2 px rb db pv tv _ pl) := hM2
  clear hM2 hbox2 b1 b2 hsv hn3 hlt hlr hld
  by_cases hz : sv < 0
  · go_wp2
    go_region
    go_wp2
    go_end0
    exact ⟨rfl, ((HM2.out.setR n 0).drew).congr (by simp [stp, setReg, ← HV.out, hz]), ((hF.trans hF2 (fun _ _ h => h)).setCell (p := ⟨rb, _, none⟩) (fun _ => Or.inr (Or.inl rfl)) _).drew⟩
  · go_wp2
    go_region
    go_wp2
    go_end0
    have hz' : ¬ sv < 0 := by omega
    exact ⟨rfl, ((HM2.out.setR n sv).drew).congr (by simp [stp, setReg, ← HV.out, hz']), ((hF.trans hF2 (fun _ _ h => h)).setCell (p := ⟨rb, _, none⟩) (fun _ => Or.inr (Or.inl rfl)) _).drew⟩
theorem does_7 (B : Nat) (w : World) (px rb db : Nat) (pv tv : Value) (x : Mo) (pl : List (Int × Int)) (a b c : Int) (mv : Value) (m : Int → Int) (hd : x.done ≤ 1000) (hpc : x.pc ≤ 1000)
    (h : Mom B w px rb db pv tv x pl) (ha : 0 ≤ a) (ha' : a ≤ 3) (hb : 0 ≤ b) (hb' : b ≤ 3) (hr : ∀ r ∈ x.regs, 0 ≤ r ∧ r ≤ 9999) :
    Calls Tryz.prog 80 #[.pointer (some ⟨px, 0, none⟩), .agg #[.int .i64 7, .int .i64 a, .int .i64 b, .int .i64 c], mv] w fun e w' => e = .returned (.tuple #[]) ∧ Mom B w' px rb db pv tv (stp ⟨7, a, b, c⟩ m x) pl ∧ Fr (mom3 px rb db) w w' := by
  obtain ⟨n, rfl⟩ : ∃ n : Nat, a = n := ⟨a.toNat, by omega⟩
  obtain ⟨bn, rfl⟩ : ∃ bn : Nat, b = bn := ⟨b.toNat, by omega⟩
  have c0 := h.cPc
  have c1 := h.cDone
  have f0 := h.fPx 0
  have f1 := h.fPx 1
  have hlt := blk_lt h.blk
  have hlr := blk_lt h.regs
  have hld := blk_lt h.read
  have H : Hid (Mom B w px rb db pv tv x pl) := h
  have hr1 := reg_bd hr h.rlen (a := n) (by omega)
  have hr2 := reg_bd hr h.rlen (a := bn) (by omega)
  clear h hr
  go_enter Tryz.func80, Tryz.ntmps80
  go_wp2
  refine name_wp (boxed_head H.out) ?_
  rintro W ⟨hM, hbox, hF, hB⟩
  clear c0 c1 f0 f1
  have b1 : W.cell? ⟨w.heap.size, 1, none⟩ = some (.int .i64 (n : Int)) := by rw [blk_cell hbox]; rfl
  have b2 : W.cell? ⟨w.heap.size, 2, none⟩ = some (.int .i64 (bn : Int)) := by rw [blk_cell hbox]; rfl
  have HM : Hid (Mom B W px rb db pv tv { x with done := x.done + 1, pc := x.pc + 1 } pl) := hM
  have c2 := hM.cRegs
  have cr := hM.cReg (a := n) (by omega)
  have cs := hM.cReg (a := bn) (by omega)
  clear hM hbox hlr hld hlt
  simp only at cr cs
  obtain ⟨r, hr⟩ : ∃ r, r = x.regs.getD n 0 := ⟨_, rfl⟩
  obtain ⟨s, hs⟩ : ∃ s, s = x.regs.getD bn 0 := ⟨_, rfl⟩
  rw [← hr] at cr hr1
  rw [← hs] at cs hr2
  have HR : Hid (r = x.regs.getD n 0) := hr
  have HS : Hid (s = x.regs.getD bn 0) := hs
  clear hr hs
  have n4 : (n : Int) < 4 := by omega
  have m4 : (bn : Int) < 4 := by omega
  have m0 : (0 : Int) ≤ (bn : Int) := by omega
  have hwr : IntKind.i64.wrap (r + s) = r + s := by rw [IntKind.wrap_i64]; omega
  refine wp_tail 20 (by kernel_rfl) ?_
  simp only [List.take_succ_cons, List.take_zero, List.drop_succ_cons, List.drop_zero]
  repeat still_step
  refine wpStill_nil ?_
  go_wp2_with (go_at_call 91; refine (becomes_any B _ px rb db pv tv _ pl (n : Int) (r + s) HM.out.drew (by omega) (by omega)).mono ?_; rintro e W2 ⟨rfl, hM2, hF2⟩)
  go_end0
  exact ⟨rfl, hM2.congr (by simp only [stp, reg, Int.toNat_natCast, HR.out, HS.out]; simp), hF.drew.trans hF2 (fun _ _ h => h)⟩
theorem does_8 (B : Nat) (w : World) (px rb db : Nat) (pv tv : Value) (x : Mo) (pl : List (Int × Int)) (a b c : Int) (mv : Value) (m : Int → Int) (hd : x.done ≤ 1000) (hpc : x.pc ≤ 1000)
    (h : Mom B w px rb db pv tv x pl) (ha : 0 ≤ a) (ha' : a ≤ 3) (hb : 0 ≤ b) (hb' : b ≤ 3) (hr : ∀ r ∈ x.regs, 0 ≤ r ∧ r ≤ 9999) :
    Calls Tryz.prog 80 #[.pointer (some ⟨px, 0, none⟩), .agg #[.int .i64 8, .int .i64 a, .int .i64 b, .int .i64 c], mv] w fun e w' => e = .returned (.tuple #[]) ∧ Mom B w' px rb db pv tv (stp ⟨8, a, b, c⟩ m x) pl ∧ Fr (mom3 px rb db) w w' := by
  obtain ⟨n, rfl⟩ : ∃ n : Nat, a = n := ⟨a.toNat, by omega⟩
  obtain ⟨bn, rfl⟩ : ∃ bn : Nat, b = bn := ⟨b.toNat, by omega⟩
  have c0 := h.cPc
  have c1 := h.cDone
  have f0 := h.fPx 0
  have f1 := h.fPx 1
  have hlt := blk_lt h.blk
  have hlr := blk_lt h.regs
  have hld := blk_lt h.read
  have H : Hid (Mom B w px rb db pv tv x pl) := h
  have hr1 := reg_bd hr h.rlen (a := n) (by omega)
  have hr2 := reg_bd hr h.rlen (a := bn) (by omega)
  clear h hr
  go_enter Tryz.func80, Tryz.ntmps80
  go_wp2
  refine name_wp (boxed_head H.out) ?_
  rintro W ⟨hM, hbox, hF, hB⟩
  clear c0 c1 f0 f1
  have b1 : W.cell? ⟨w.heap.size, 1, none⟩ = some (.int .i64 (n : Int)) := by rw [blk_cell hbox]; rfl
  have b2 : W.cell? ⟨w.heap.size, 2, none⟩ = some (.int .i64 (bn : Int)) := by rw [blk_cell hbox]; rfl
  have HM : Hid (Mom B W px rb db pv tv { x with done := x.done + 1, pc := x.pc + 1 } pl) := hM
  have c2 := hM.cRegs
  have cr := hM.cReg (a := n) (by omega)
  have cs := hM.cReg (a := bn) (by omega)
  clear hM hbox hlr hld hlt
  simp only at cr cs
  obtain ⟨r, hr⟩ : ∃ r, r = x.regs.getD n 0 := ⟨_, rfl⟩
  obtain ⟨s, hs⟩ : ∃ s, s = x.regs.getD bn 0 := ⟨_, rfl⟩
  rw [← hr] at cr hr1
  rw [← hs] at cs hr2
  have HR : Hid (r = x.regs.getD n 0) := hr
  have HS : Hid (s = x.regs.getD bn 0) := hs
  clear hr hs
  have n4 : (n : Int) < 4 := by omega
  have m4 : (bn : Int) < 4 := by omega
  have m0 : (0 : Int) ≤ (bn : Int) := by omega
  have hwr : IntKind.i64.wrap (r - s) = r - s := by rw [IntKind.wrap_i64]; omega
  refine wp_tail 20 (by kernel_rfl) ?_
  simp only [List.take_succ_cons, List.take_zero, List.drop_succ_cons, List.drop_zero]
  repeat still_step
  refine wpStill_nil ?_
  go_wp2_with (go_at_call 91; refine (becomes_any B _ px rb db pv tv _ pl (n : Int) (r - s) HM.out.drew (by omega) (by omega)).mono ?_; rintro e W2 ⟨rfl, hM2, hF2⟩)
  go_end0
  exact ⟨rfl, hM2.congr (by simp only [stp, reg, Int.toNat_natCast, HR.out, HS.out]; simp), hF.drew.trans hF2 (fun _ _ h => h)⟩
end Go.Proofs.YtlbmcdoldnajoaaGreat
namespace Go.Proofs.YtlbmcdoldnajoaaGreat
open Go.RowKit
attribute [local go_sem ↓] Go.wp_at_zero Go.wp_at_succ
theorem Tryz.infoPair : (Tryz.prog.info? 58).map (fun i => (i.zero, i.size, i.bytes)) = some (some (.agg #[.int .i64 0, .int .i64 0]), 2, 16) := by kernel_rfl
theorem Tryz.infoInt : (Tryz.prog.info? 3).map (fun i => (i.zero, i.size, i.bytes)) = some (some (.int .i64 0), 1, 8) := by kernel_rfl
def momOwn (px rb db : Nat) (pv tv : Value) (k : Nat) : Prop := k = px ∨ k = rb ∨ k = db ∨ pv.ownBlock = some k ∨ tv.ownBlock = some k
def Putting (B : Nat) (W : World) (px rb db : Nat) (pv tv : Value) (x : Mo) (pl : List (Int × Int)) (p q : Int) (g cap : Nat) (w' : World) : Prop :=
  Mom B (w'.setCell ⟨px, 3, none⟩ (.slice (some ⟨g, 0, none⟩) (pl.length + 1) cap)) px rb db (.slice (some ⟨g, 0, none⟩) (pl.length + 1) cap) tv (putAt x p q) (pl ++ [(p, q)]) ∧ Fr (momOwn px rb db pv tv) W w'
theorem step_puts {ops : Array Oper} {o : Oper} {a : Act} {K : Act → World → Prop} {Q : Exit → Act → World → Prop} {E : Prop} (s y : Operand) {B : Nat} {W : World} {px rb db : Nat} {pv tv : Value} {x : Mo} {pl : List (Int × Int)} {p q : Int}
    (hgd : o.guard = none) (ho : o.op = .call { callee := .builtin .append, args := #[s, y], argTypes := #[36, 36] })
    (hM : Mom B W px rb db pv tv x pl) (hB : B ≤ W.heap.size) (hpl : pl.length ≤ 1000) (hs : a.eval s = pv) (hy : a.eval y = .slice (some ⟨W.heap.size, 0, none⟩) 1 1)
    (h : ∀ g cap w', w'.cell? ⟨px, 3, none⟩ = some pv → w'.frozen? ⟨px, 3, none⟩ = false → Putting B W px rb db pv tv x pl p q g cap w' → K (a.put o.dst (.slice (some ⟨g, 0, none⟩) (pl.length + 1) cap)) w') :
    if Region.wanted o (yielded ops a.tmps) = true then Oper.wp Tryz.prog o a (W.alloc (.cells #[.int .i64 p, .int .i64 q] 58)).drew K Q else E := by
  obtain ⟨i0, hi, hz0, hz1, hz2⟩ := info_parts Tryz.infoPair
  have hM1 := (hM.alloc (.cells #[.int .i64 p, .int .i64 q] 58)).drew
  have hnew : (W.alloc (.cells #[.int .i64 p, .int .i64 q] 58)).drew.heap[W.heap.size]? = some (.cells #[.int .i64 p, .int .i64 q] 58 (0, 0)) := heap_alloc_new W _
  have hsz : (W.alloc (.cells #[.int .i64 p, .int .i64 q] 58)).drew.heap.size = W.heap.size + 1 := by show (W.alloc _).heap.size = _; simp
  refine step_append_lies _ hgd s y 36 ho B 58 i0 _ 2 16 Tryz.underlying36 hi hz0 hz1 hz2 rfl (by decide) pv pl.length (prCells pl) hs hM1.puts ⟨W.heap.size, 0, none⟩ 1 1 [.int .i64 p, .int .i64 q] hy rfl
    (World.news_of_block hnew) (fun u hu => by simp at hu; rcases hu with rfl | rfl <;> rfl) (by decide) (by unfold maxLen; omega) (by omega) (by rw [hsz]; omega) _ rfl ?_
  intro g cap w' hown hgrow hat hlt
  have hF1 : Fr (fun k => pv.ownBlock = some k) W w' := (((Fr.refl _ W).alloc _).drew).grown hgrow (fun k hk _ => hk)
  have hpx : w'.heap[px]? = some (.cells (momCells x rb db pv tv) 116 (0, 0)) := hF1.blk hM.blk hM.ne_pp
  have hrb : w'.heap[rb]? = some (.cells (iv x.regs) 3 (0, 0)) := hF1.blk hM.regs hM.ne_pR
  have hdb : w'.heap[db]? = some (.cells (bv x.read) 4 (0, 0)) := hF1.blk hM.read hM.ne_pD
  have hgp : (Value.slice (some ⟨g, 0, none⟩) (pl.length + 1) cap).ownBlock ≠ some px := owns_ne hown hpx (by decide)
  have htv : ∀ k, tv.ownBlock = some k → ¬ pv.ownBlock = some k := fun k hk hp => by
    rcases hM.told.2 with ⟨rfl, _⟩ | ⟨g1, c1, u1, rfl, _, h1, _⟩
    · cases hk
    · rcases hM.puts.2 with ⟨rfl, _⟩ | ⟨g2, c2, u2, rfl, _, h2, _⟩
      · cases hp
      · injection hk with hk; injection hp with hp
        have e1 : g1 = k := hk
        have e2 : g2 = k := hp
        subst e1; subst e2
        exact blk_ne h1 h2 (by decide) rfl
  refine h g cap w' (by rw [blk_cell hpx]; rfl) (blk_free hpx) ⟨?_, hF1.mono (fun k _ hk => Or.inr (Or.inr (Or.inr (Or.inl hk))))⟩
  exact { bpx := hM.bpx, brb := hM.brb, bdb := hM.bdb
          blk := by rw [blk_set hpx]; simp [momCells, putAt]
          regs := by rw [blk_other hM.ne_pr.symm]; exact hrb
          rlen := hM.rlen
          read := by rw [blk_other hM.ne_pd.symm]; exact hdb
          dlen := hM.dlen
          puts := owns_set (by simpa [prCells_append, prCells] using hown) hgp _ _
          told := owns_set (owns_fr hM.told hF1 htv) hM.ne_tp _ _
          apart := hM.apart
          last := fun k => by rw [lastP_snoc, hM.last]; rfl }
theorem mom3_own {px rb db : Nat} {pv tv : Value} {k : Nat} (h : mom3 px rb db k) : momOwn px rb db pv tv k := by
  rcases h with h | h | h
  · exact Or.inl h
  · exact Or.inr (Or.inl h)
  · exact Or.inr (Or.inr (Or.inl h))
def Telling (B : Nat) (W : World) (px rb db : Nat) (pv tv : Value) (x : Mo) (pl : List (Int × Int)) (r : Int) (g cap : Nat) (w' : World) : Prop :=
  Mom B (w'.setCell ⟨px, 5, none⟩ (.slice (some ⟨g, 0, none⟩) (x.told.length + 1) cap)) px rb db pv (.slice (some ⟨g, 0, none⟩) (x.told.length + 1) cap) { x with told := x.told ++ [r] } pl ∧ Fr (momOwn px rb db pv tv) W w'
theorem step_told {ops : Array Oper} {o : Oper} {a : Act} {K : Act → World → Prop} {Q : Exit → Act → World → Prop} {E : Prop} (s y : Operand) {B : Nat} {W : World} {px rb db : Nat} {pv tv : Value} {x : Mo} {pl : List (Int × Int)} {r : Int}
    (hgd : o.guard = none) (ho : o.op = .call { callee := .builtin .append, args := #[s, y], argTypes := #[55, 55] })
    (hM : Mom B W px rb db pv tv x pl) (hB : B ≤ W.heap.size) (htl : x.told.length ≤ 1000) (hs : a.eval s = tv) (hy : a.eval y = .slice (some ⟨W.heap.size, 0, none⟩) 1 1)
    (h : ∀ g cap w', w'.cell? ⟨px, 5, none⟩ = some tv → w'.frozen? ⟨px, 5, none⟩ = false → Telling B W px rb db pv tv x pl r g cap w' → K (a.put o.dst (.slice (some ⟨g, 0, none⟩) (x.told.length + 1) cap)) w') :
    if Region.wanted o (yielded ops a.tmps) = true then Oper.wp Tryz.prog o a (W.alloc (.cells #[.int .i64 r] 3)).drew K Q else E := by
  obtain ⟨i0, hi, hz0, hz1, hz2⟩ := info_parts Tryz.infoInt
  have hM1 := (hM.alloc (.cells #[.int .i64 r] 3)).drew
  have hnew : (W.alloc (.cells #[.int .i64 r] 3)).drew.heap[W.heap.size]? = some (.cells #[.int .i64 r] 3 (0, 0)) := heap_alloc_new W _
  have hsz : (W.alloc (.cells #[.int .i64 r] 3)).drew.heap.size = W.heap.size + 1 := by show (W.alloc _).heap.size = _; simp
  refine step_append_lies _ hgd s y 55 ho B 3 i0 _ 1 8 Tryz.underlying55 hi hz0 hz1 hz2 rfl (by decide) tv x.told.length (x.told.map (Value.int .i64)) hs hM1.told ⟨W.heap.size, 0, none⟩ 1 1 [.int .i64 r] hy rfl
    (World.news_of_block hnew) (fun u hu => by simp at hu; subst hu; rfl) (by decide) (by unfold maxLen; omega) (by omega) (by rw [hsz]; omega) _ rfl ?_
  intro g cap w' hown hgrow hat hlt
  have hF1 : Fr (fun k => tv.ownBlock = some k) W w' := (((Fr.refl _ W).alloc _).drew).grown hgrow (fun k hk _ => hk)
  have hpx : w'.heap[px]? = some (.cells (momCells x rb db pv tv) 116 (0, 0)) := hF1.blk hM.blk hM.ne_tp
  have hrb : w'.heap[rb]? = some (.cells (iv x.regs) 3 (0, 0)) := hF1.blk hM.regs hM.apart
  have hdb : w'.heap[db]? = some (.cells (bv x.read) 4 (0, 0)) := hF1.blk hM.read hM.ne_tD
  have hgp : (Value.slice (some ⟨g, 0, none⟩) (x.told.length + 1) cap).ownBlock ≠ some px := owns_ne hown hpx (by decide)
  have htv : ∀ k, pv.ownBlock = some k → ¬ tv.ownBlock = some k := fun k hp hk => by
    rcases hM.told.2 with ⟨rfl, _⟩ | ⟨g1, c1, u1, rfl, _, h1, _⟩
    · cases hk
    · rcases hM.puts.2 with ⟨rfl, _⟩ | ⟨g2, c2, u2, rfl, _, h2, _⟩
      · cases hp
      · injection hk with hk; injection hp with hp
        have e1 : g1 = k := hk
        have e2 : g2 = k := hp
        subst e1; subst e2
        exact blk_ne h1 h2 (by decide) rfl
  refine h g cap w' (by rw [blk_cell hpx]; rfl) (blk_free hpx) ⟨?_, hF1.mono (fun k _ hk => Or.inr (Or.inr (Or.inr (Or.inr hk))))⟩
  exact { bpx := hM.bpx, brb := hM.brb, bdb := hM.bdb
          blk := by rw [blk_set hpx]; simp [momCells]
          regs := by rw [blk_other hM.ne_pr.symm]; exact hrb
          rlen := hM.rlen
          read := by rw [blk_other hM.ne_pd.symm]; exact hdb
          dlen := hM.dlen
          puts := owns_set (owns_fr hM.puts hF1 htv) hM.ne_pp _ _
          told := owns_set (by simpa using hown) hgp _ _
          apart := fun e => by
            injection e with e
            have e' : g = rb := e
            subst e'
            rcases hat with hat | hat
            · exact hM.apart hat
            · have := blk_lt hM.regs; rw [hat, hsz] at this; omega
          last := hM.last }
end Go.Proofs.YtlbmcdoldnajoaaGreat
