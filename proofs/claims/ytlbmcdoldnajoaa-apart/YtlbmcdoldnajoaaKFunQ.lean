import Derived.Test.YtlbmcdoldnajoaaKFunP
import Derived.Test.YtlbmcdoldnajoaaKPq
import Derived.Deep.RegionHeld3

namespace Go.Proofs.Ytlbmcdoldnajoaa
open Go.RowKit
theorem conf_box {W : World} {k : Nat} {a b c d : Int} {t : TypeId} (h : W.heap[k]? = some (.cells #[.int .i64 a, .int .i64 b, .int .i64 c, .int .i64 d] t (0, 0))) :
    W.cell? ⟨k, 0, none⟩ = some (.int .i64 a) ∧ W.cell? ⟨k, 1, none⟩ = some (.int .i64 b) ∧ W.cell? ⟨k, 2, none⟩ = some (.int .i64 c) ∧ W.cell? ⟨k, 3, none⟩ = some (.int .i64 d) ∧ k < W.heap.size :=
  ⟨by rw [blk_cell h]; rfl, by rw [blk_cell h]; rfl, by rw [blk_cell h]; rfl, by rw [blk_cell h]; rfl, blk_lt h⟩
/-- where Apart stands while the jobs are handed in: i of them -/
def ApR (o : Nat → Option Nat) (Z : World) (rb : Nat) (cf : ConfM) (i : Nat) (wr : World) : Prop := ∃ o1 v1 R1, KNow o Z rb o1 wr R1 v1 ∧ KOk (1 + i) R1 ∧ ApI R1 ∧ ApT R1 ∧ R1.d.jobs.length = i + 1 ∧ R1.d.c = cf
/-- and while workers are picked -/
def ApP (o : Nat → Option Nat) (Z : World) (rb : Nat) (cf : ConfM) (wr : World) : Prop := ∃ o1 v1 R1, KNow o Z rb o1 wr R1 v1 ∧ KOk 4 R1 ∧ ApI R1 ∧ ApT R1 ∧ R1.d.c = cf
theorem KNow.stp2 {o o1 : Nat → Option Nat} {Z W W' : World} {b : Nat} {R1 R2 : RM} {v1 : KV} (h : KNow o Z b o1 W R1 v1) (hs : KStp o1 W b R2 W') : ∃ o2 v2, KNow o Z b o2 W' R2 v2 := by
  obtain ⟨o2, v2, h1, h2, h3⟩ := hs
  exact ⟨o2, v2, h.upd h1 h2 h3⟩
theorem ApP.step {o o1 : Nat → Option Nat} {Z W W' : World} {b : Nat} {cf : ConfM} {R1 : RM} {v1 : KV} (h : KNow o Z b o1 W R1 v1) (hk : KOk 4 R1) (ha : ApI R1) (ht : ApT R1) (hc : R1.d.c = cf) {i : Nat} (hi : i < R1.d.c.workers) (hs : KStp o1 W b (R1.pickR i) W') : ApP o Z b cf W' := by
  obtain ⟨o2, v2, h2⟩ := h.stp2 hs
  exact ⟨o2, v2, R1.pickR i, h2, hk.pick hi, ap_pick hk.k ha hi, apt_pick ht i, by rw [pickR_c]; exact hc⟩
/-- in the last loop, behind the Poll -/
structure ApX (o : Nat → Option Nat) (Z : World) (rb : Nat) (R : RM) (o1 : Nat → Option Nat) (v1 : KV) (mv : Value) (ml : List (Int × Int)) (ob : Nat) (st : Int) (tv : Value) (tl : List Int) (X : World) : Prop where
  now : KNow o Z rb o1 X R v1
  map : PairsV X X.heap.size mv ml
  box : X.heap[ob]? = some (.cells #[.int .i64 st, tv, .int .i64 1] 44 (0, 0))
  told : X.ownsRow 0 3 1 tv tl.length (tl.map (Value.int .i64))
theorem PairsV.grow {W W' : World} {v : Value} {l : List (Int × Int)} (h : PairsV W W.heap.size v l) (hb : Below W.heap.size W W') : PairsV W' W'.heap.size v l := PairsV.wide (h.below hb (Nat.le_refl _)) hb.size
theorem ApX.below {o : Nat → Option Nat} {Z : World} {rb : Nat} {R : RM} {o1 : Nat → Option Nat} {v1 : KV} {mv : Value} {ml : List (Int × Int)} {ob : Nat} {st : Int} {tv : Value} {tl : List Int} {X Y : World} (h : ApX o Z rb R o1 v1 mv ml ob st tv tl X) (hb : Below X.heap.size X Y) : ApX o Z rb R o1 v1 mv ml ob st tv tl Y :=
  ⟨h.now.below hb, h.map.grow hb, (hb.block _ (blk_lt h.box)).trans h.box, owns_keep h.told hb⟩
theorem own37 (w : World) : PairsV (w.alloc (.cells #[.int .i64 3, .int .i64 7] 42)) (w.alloc (.cells #[.int .i64 3, .int .i64 7] 42)).heap.size (.slice (some ⟨w.heap.size, 0, none⟩) 1 1) [(3, 7)] :=
  pairsV_own (B := w.heap.size) ⟨rfl, Or.inr ⟨w.heap.size, 1, #[.int .i64 3, .int .i64 7], rfl, Nat.le_refl _, heap_alloc_new _ _, Nat.le_refl _, by decide, rfl, rfl⟩⟩ (by decide)
/-- behind the Run, however the box of its outcome came -/
def ApC (o : Nat → Option Nat) (Z : World) (rb : Nat) (R : RM) (o1 : Nat → Option Nat) (v1 : KV) (mv : Value) (ml : List (Int × Int)) (ob : Nat) (st : Int) (tv : Value) (tl : List Int) (L an : Nat) (nl : List (Int × Int)) (x y z : Value) (wx : World) : Prop :=
  ∃ pb ta tc aa ac, x = .pointer (some ⟨pb, 0, none⟩) ∧ y = .slice aa an ac ∧ z = .int .i64 0 ∧ ApX o Z rb R o1 v1 mv ml ob st tv tl wx ∧ wx.heap[pb]? = some (.cells #[.int .i64 st, .slice ta L tc, .int .i64 1] 44 (0, 0)) ∧ wx.ownsRow 0 3 1 (.slice ta L tc) tl.length (tl.map (Value.int .i64)) ∧ PairsV wx wx.heap.size (.slice aa an ac) nl
/-- what Run hands back -/
def ApY (Y : World) (st : Int) (tl : List Int) (L an : Nat) (nl : List (Int × Int)) (e : Ending) (w' : World) : Prop :=
  ∃ ta tc aa ac, e = .returned (.tuple #[.agg #[.int .i64 st, .slice ta L tc, .int .i64 1], .slice aa an ac, .int .i64 0]) ∧ w'.ownsRow Y.heap.size 3 1 (.slice ta L tc) tl.length (tl.map (Value.int .i64)) ∧ w'.ownsRow Y.heap.size 42 2 (.slice aa an ac) nl.length (prCells nl) ∧ Below Y.heap.size Y w'
def ApV (Y : World) (ta : Option Addr) (tc : Nat) (aa : Option Addr) (ac : Nat) (tl : List Int) (L an : Nat) (nl : List (Int × Int)) (w' : World) : Prop :=
  w'.ownsRow Y.heap.size 3 1 (.slice ta L tc) tl.length (tl.map (Value.int .i64)) ∧ w'.ownsRow Y.heap.size 42 2 (.slice aa an ac) nl.length (prCells nl) ∧ Below Y.heap.size Y w'
section
variable {o : Nat → Option Nat} {Z : World} {rb : Nat} {R : RM} {o1 : Nat → Option Nat} {v1 : KV} {mv : Value} {ml : List (Int × Int)} {ob : Nat} {st : Int} {tv : Value} {tl : List Int} {L an : Nat} {nl : List (Int × Int)} {X W : World} {ta aa : Option Addr} {tc ac : Nat}
theorem apcA (hX : ApX o Z rb R o1 v1 mv ml ob st tv tl X) (hn : nl.length ≤ 16) (h : ApV X.drew ta tc aa ac tl L an nl W) :
    ApC o Z rb R o1 v1 mv ml ob st tv tl L an nl (.pointer (some ⟨W.heap.size, 0, none⟩)) (.slice aa an ac) (.int .i64 0) (W.alloc (.cells #[.int .i64 st, .slice ta L tc, .int .i64 1] 44)) := by
  obtain ⟨h1, h2, h3⟩ := h
  have hb : Below X.heap.size X W := ((Below.refl _ X).drew).trans h3
  have hba : Below W.heap.size W (W.alloc (.cells #[.int .i64 st, .slice ta L tc, .int .i64 1] 44)) := (Below.refl _ _).alloc (Nat.le_refl _) _
  exact ⟨_, ta, tc, aa, ac, rfl, rfl, rfl, (hX.below hb).below hba, heap_alloc_new _ _, owns_keep (owns_base h1 (Nat.zero_le _)) hba, (pairsV_own h2 (by omega)).grow hba⟩
theorem box_out (X : World) : (X.alloc outO).heap[X.heap.size]? = some (.cells #[.int .i64 0, .slice none 0 0, .int .i64 0] 44 (0, 0)) := heap_alloc_new _ _
theorem apcB (hX : ApX o Z rb R o1 v1 mv ml ob st tv tl X) (hn : nl.length ≤ 16) (h : ApV (X.alloc outO).drew ta tc aa ac tl L an nl W) :
    ApC o Z rb R o1 v1 mv ml ob st tv tl L an nl (.pointer (some ⟨X.heap.size, 0, none⟩)) (.slice aa an ac) (.int .i64 0) (((W.setCell ⟨X.heap.size, 0, none⟩ (.int .i64 st)).setCell ⟨X.heap.size, 1, none⟩ (.slice ta L tc)).setCell ⟨X.heap.size, 2, none⟩ (.int .i64 1)) := by
  obtain ⟨h1, h2, h3⟩ := h
  have hsz : (X.alloc outO).drew.heap.size = X.heap.size + 1 := by show (X.alloc _).heap.size = _; simp
  have hbox : W.heap[X.heap.size]? = some (.cells #[.int .i64 0, .slice none 0 0, .int .i64 0] 44 (0, 0)) := (h3.block X.heap.size (by omega)).trans (box_out X)
  have hb : Below X.heap.size X W := (((Below.refl _ X).alloc (Nat.le_refl _) _).drew).trans (h3.mono (by omega))
  have hb3 : Below X.heap.size X (((W.setCell ⟨X.heap.size, 0, none⟩ (.int .i64 st)).setCell ⟨X.heap.size, 1, none⟩ (.slice ta L tc)).setCell ⟨X.heap.size, 2, none⟩ (.int .i64 1)) := ((hb.setCell (Nat.le_refl _) _).setCell (Nat.le_refl _) _).setCell (Nat.le_refl _) _
  have hsame : ∀ g, X.heap.size + 1 ≤ g → (((W.setCell ⟨X.heap.size, 0, none⟩ (.int .i64 st)).setCell ⟨X.heap.size, 1, none⟩ (.slice ta L tc)).setCell ⟨X.heap.size, 2, none⟩ (.int .i64 1)).heap[g]? = W.heap[g]? := fun g hg => by
    rw [Below.heap_setCell _ _ _ _ (by show g ≠ X.heap.size; omega), Below.heap_setCell _ _ _ _ (by show g ≠ X.heap.size; omega), Below.heap_setCell _ _ _ _ (by show g ≠ X.heap.size; omega)]
  refine ⟨_, ta, tc, aa, ac, rfl, rfl, rfl, hX.below hb3, set3_out hbox, owns_base (keeps_of_block h1 (fun g hg => hsame g (by have := owns_ge h1 hg; omega))) (Nat.zero_le _), pairsV_own (keeps_of_block h2 (fun g hg => hsame g (by have := owns_ge h2 hg; omega))) (by omega)⟩
end
set_option maxRecDepth 100000 in
set_option maxHeartbeats 8000000 in
theorem apart_walk (a b c d : Int) (w : World) (ha : i64B a) (hb : i64B b) (hc : i64B c) (hd : i64B d) {J : List (Value × List Int)} {jv : Value} (hs : JbAt w.heap.size w jv J) (hN : J.length ≤ 800000000) {pv : Value} {ps : List Int} (hp : IntsV w pv ps) (hpi : ∀ x ∈ ps, i64B x) :
    Calls Try.prog 10 #[confV a b c d, jv, pv] w fun e w' => e = .returned (.bool true) ∧ Below w.heap.size w w' := by
  have HBg : Hid (∀ W, Calls Try.prog 32 #[.agg #[.int .i64 a, .int .i64 b, .int .i64 c, .int .i64 d]] W fun e w' => BegP (fitM a b c d) W e w') := fun W => begin_k a b c d W ha hb hc hd
  have hok := fit_ok a b c d
  generalize fitM a b c d = cf at *
  have HOk : Hid (((1 ≤ cf.workers ∧ cf.workers ≤ 4) ∧ (1 ≤ cf.queue ∧ cf.queue ≤ 8) ∧ (1 ≤ cf.fuel ∧ cf.fuel ≤ 200) ∧ cf.patience ≤ 5) ∧ 3 ≤ cf.fuel) := hok
  have HS : Hid (JbAt w.heap.size w jv J ∧ J.length ≤ 800000000) := ⟨hs, hN⟩
  have HP : Hid (IntsV w pv ps ∧ ∀ x ∈ ps, i64B x) := ⟨hp, hpi⟩
  obtain ⟨⟨ao, cap, hv, _⟩, _⟩ := hs
  obtain ⟨n, hn⟩ : ∃ n, n = J.length := ⟨_, rfl⟩
  rw [← hn] at hv
  subst hv
  have HNJ : Hid (n = J.length) := hn
  have hn8 : n ≤ 800000000 := by omega
  obtain ⟨pa, pcap, hv, hpm, _⟩ := hp
  obtain ⟨pn, hpn⟩ : ∃ n, n = ps.length := ⟨_, rfl⟩
  rw [← hpn] at hv hpm
  subst hv
  have HNP : Hid (pn = ps.length) := hpn
  obtain ⟨nw, hnw⟩ : ∃ nw, nw = cf.workers := ⟨_, rfl⟩
  obtain ⟨qu, hqu⟩ : ∃ qu, qu = cf.queue := ⟨_, rfl⟩
  have HNw : Hid (nw = cf.workers ∧ qu = cf.queue) := ⟨hnw, hqu⟩
  have hw0 : (1 ≤ nw ∧ nw ≤ 4) ∧ 1 ≤ qu ∧ qu ≤ 8 := by rw [hnw, hqu]; exact ⟨hok.1.1, hok.1.2.1⟩
  unfold confV
  clear ha hb hc hd hok hN hn hpn hpi hnw hqu
  go_enter Try.func10, Try.ntmps10
  go_wp2_with fail
  refine (plain_any run_ok _).mono ?_
  rintro e W0 ⟨rfl, hb0⟩
  have hba : Below w.heap.size w (w.alloc (.cells #[.int .i64 a, .int .i64 b, .int .i64 c, .int .i64 d] 34)) := (Below.refl _ _).alloc (Nat.le_refl _) _
  have hbw : Below w.heap.size w W0 := hba.trans (hb0.mono hba.size)
  obtain ⟨g0, g1, g2, g3, g4⟩ := conf_box ((hb0.block w.heap.size (by simp)).trans (heap_alloc_new _ _))
  clear hb0 hba
  go_wp2_with fail
  refine (HBg.out _).mono ?_
  clear HBg g0 g1 g2 g3 g4
  rintro e Z ⟨rb, xb, o, v, rfl, hkp, ho, hb⟩
  have HZ : Hid (KP o Z rb (run5 cf xb 5) v ∧ (∀ k, o k ≠ none → w.heap.size ≤ k) ∧ Below w.heap.size w Z) := ⟨hkp, fun k hk => Nat.le_trans hbw.size (ho k hk), hbw.trans (hb.mono hbw.size)⟩
  have h5 := run5_ok xb HOk.out.1 HOk.out.2 5
  have HI : Hid (ApR o Z rb cf 0 Z) := ⟨o, v, run5 cf xb 5, KNow.start hkp, h5.1, run5_api xb HOk.out.1 HOk.out.2, run5_apt xb HOk.out.1 5, run5_len xb HOk.out.1 HOk.out.2 5, h5.2⟩
  clear hkp ho hb hbw h5
  unfold ptrV
  go_wp2
  go_loopw [9] (fun x wr => ∃ i : Nat, i ≤ 3 ∧ x = .int .i64 i ∧ ApR o Z rb cf i wr) (fun x _ => 3 - (intOf x).toNat)
  case atStart => exact ⟨0, Nat.zero_le _, rfl, HI.out⟩
  case round =>
    obtain ⟨i, hi, rfl, o1, v1, R1, hN1, hK1, hA1, hT1, hL1, hC1⟩ := hrel
    have HR1 : Hid (KNow o Z rb o1 wr R1 v1 ∧ KOk (1 + i) R1 ∧ ApI R1 ∧ ApT R1 ∧ R1.d.jobs.length = i + 1 ∧ R1.d.c = cf) := ⟨hN1, hK1, hA1, hT1, hL1, hC1⟩
    have c2 : wr.cell? ⟨rb, 2, none⟩ = some (.int .i64 (R1.c.queue : Int)) := hN1.kp.cell 2
    rw [hK1.k.conf, hC1, ← HNw.out.2] at c2
    clear hN1 hK1 hA1 hT1 hL1 hC1 HI
    have hbz : Below w.heap.size w wr := HZ.out.2.2.trans (HR1.out.1.fr.below (fun k hk => HZ.out.2.1 k hk.some) HZ.out.2.2.size)
    by_cases hgo : i < n ∧ i < 3 ∧ i < qu
    · have m1 : (i : Int) < (n : Int) := by omega
      have m2 : (i : Int) < 3 := by omega
      have m3 : (i : Int) < (qu : Int) := by omega
      have hil : i < J.length := by rw [← HNJ.out]; exact hgo.1
      obtain ⟨⟨ao', cap', hv', hcl⟩, hit⟩ := HS.out.1.below hbz
      injection hv' with e1 e2 e3
      subst e1 e3
      rcases hcl with hcl | ⟨sb, off, e4, hsl, hcl⟩
      · rw [hcl] at hil; exact absurd hil (Nat.not_lt_zero _)
      subst e4
      have s0 := hcl i hil
      have hmem : J.getD i (nilV, []) ∈ J := by simp [List.getD, hil]
      obtain ⟨a3, a4, a5⟩ := hit _ hmem
      generalize J.getD i (nilV, []) = sc at s0 a3 a4 a5
      obtain ⟨slv, sxs⟩ := sc
      simp only at s0 a3 a4 a5
      obtain ⟨sla, sln, slc, hslv⟩ : ∃ ao n cap, slv = .slice ao n cap := by
        obtain ⟨ao, cap, e, _⟩ := a4 wr (Below.refl _ _)
        exact ⟨_, _, _, e⟩
      subst hslv
      have hAp := apart_k (.slice sla sln slc) sxs (4 * i) wr a3 (a4 wr (Below.refl _ _)) a5 (by omega)
      obtain ⟨l, hl⟩ : ∃ l, l = apL sxs (4 * i) := ⟨_, rfl⟩
      have HLj : Hid (jobB l = true ∧ ∀ s ∈ l, ApJ (4 * i) s) := by rw [hl]; exact ⟨apL_job _ (by omega), apL_ap _ (by omega)⟩
      rw [← hl] at hAp
      have hw4 : IntKind.i64.wrap (4 * (i : Int)) = ((4 * i : Nat) : Int) := by rw [IntKind.wrap_i64]; omega
      have hsl2 : sb < wr.heap.size := Nat.lt_of_lt_of_le hsl hbz.size
      have hqi : i < cf.queue ∧ i < 3 := by rw [← HNw.out.2]; exact ⟨hgo.2.2, hgo.2.1⟩
      have HQi : Hid (i < cf.queue ∧ i < 3) := hqi
      clear hbz hcl hit hmem a3 a4 a5 e2 hil hl hqi
      go_wp2_with fail
      refine hAp.mono ?_
      clear hAp s0
      rintro e Wm ⟨mv, rfl, hrow, hbm⟩
      obtain ⟨o2, hM⟩ := alM HR1.out.1 (Below.refl _ _) hrow hbm
      have hSay := say_k hM.now.kp HR1.out.2.1 (by omega) HLj.out.1 hM.st
      unfold ptrV at hSay
      have HM : Hid (AlM o Z rb R1 mv l o2 v1 Wm) := hM
      obtain ⟨ma, mc, rfl⟩ := owns_form hrow
      obtain ⟨ln, hln⟩ : ∃ ln, ln = l.length := ⟨_, rfl⟩
      rw [← hln] at hSay HM ⊢
      clear hrow hbm hM hln
      go_wp2_with fail
      refine hSay.mono ?_
      clear hSay
      rintro e Ws ⟨rfl, hst⟩
      have HE : Hid (ApR o Z rb cf (i + 1) Ws) := by
        obtain ⟨o3, v3, h3⟩ := HM.out.now.stp2 hst
        obtain ⟨s1, s2, s3, s4⟩ := ap_say HR1.out.2.1.k HR1.out.2.2.1 HR1.out.2.2.2.1 HR1.out.2.2.2.2.1 HQi.out.2 (by rw [HR1.out.2.2.2.2.2]; exact HQi.out.1) HLj.out.1 HLj.out.2
        exact ⟨o3, v3, R1.sayR l, h3, (HR1.out.2.1.say HLj.out.1).mono (by omega), s1, s2, s3, by rw [s4]; exact HR1.out.2.2.2.2.2⟩
      clear hst
      go_wp2
      go_roundw
      case rel => exact ⟨i + 1, by omega, by go_num, HE.out⟩
      case measure => simp [intOf]; omega
    · have HP0 : Hid (ApP o Z rb cf wr) := ⟨o1, v1, R1, HR1.out.1, HR1.out.2.1.mono (by omega), HR1.out.2.2.1, HR1.out.2.2.2.1, HR1.out.2.2.2.2.2⟩
      clear HR1 hbz HS HNJ
      rcases (show ¬ (i : Int) < (n : Int) ∨ ((i : Int) < (n : Int) ∧ ¬ (i : Int) < 3) ∨ ((i : Int) < (n : Int) ∧ (i : Int) < 3 ∧ ¬ (i : Int) < (qu : Int)) by omega) with m1 | ⟨m1, m2⟩ | ⟨m1, m2, m3⟩
      all_goals
        clear hgo
        go_wp2
        go_loopw [10] (fun x wr => ∃ j : Nat, j ≤ pn ∧ x = .int .i64 j ∧ ApP o Z rb cf wr) (fun x _ => pn - (intOf x).toNat)
        case atStart => exact ⟨0, Nat.zero_le _, rfl, HP0.out⟩
        case round =>
          obtain ⟨j, hj, rfl, o1, v1, R1, hN1, hK1, hA1, hT1, hC1⟩ := hrel
          have HR1 : Hid (KNow o Z rb o1 wr R1 v1 ∧ KOk 4 R1 ∧ ApI R1 ∧ ApT R1 ∧ R1.d.c = cf) := ⟨hN1, hK1, hA1, hT1, hC1⟩
          clear HP0
          by_cases hlt : j < pn
          · have m1 : (j : Int) < (pn : Int) := by omega
            have c1 : wr.cell? ⟨rb, 1, none⟩ = some (.int .i64 (R1.c.workers : Int)) := hN1.kp.cell 1
            rw [hK1.k.conf, hC1, ← HNw.out.1] at c1
            have hbz : Below w.heap.size w wr := HZ.out.2.2.trans (hN1.fr.below (fun k hk => HZ.out.2.1 k hk.some) HZ.out.2.2.size)
            obtain ⟨pa', pcap', hv', _, hcl⟩ := HP.out.1.below hbz
            injection hv' with e1 e2 e3
            subst e1 e3
            have hjl : j < ps.length := by rw [← HNP.out]; exact hlt
            rcases hcl with hcl | ⟨pb, poff, e4, hpl, hcl⟩
            · rw [hcl] at hjl; exact absurd hjl (Nat.not_lt_zero _)
            subst e4
            have s0 := hcl j hjl
            have hpx : i64B (ps.getD j 0) := HP.out.2 _ (by simp [List.getD, hjl])
            generalize ps.getD j 0 = pk at s0 hpx
            obtain ⟨wi, hwi⟩ : ∃ wi, wi = (pickI pk nw).toNat := ⟨_, rfl⟩
            have hwe : pickI pk nw = (wi : Int) ∧ wi < nw := by
              have h1 := pickI_lo pk (n := (nw : Int)) (by omega)
              have h2 := pickI_hi pk (n := (nw : Int)) (by omega)
              exact ⟨by omega, by omega⟩
            have HPk : Hid (∀ W : World, Calls Try.prog 19 #[.int .i64 pk, .int .i64 (nw : Int)] W fun e w' => e = .returned (.int .i64 (wi : Int)) ∧ w' = W) := fun W => by
              have := pick_any pk nw W hpx (by omega) (by omega)
              rw [hwe.1] at this
              exact this
            have hwl : wi < R1.d.c.workers := by rw [hC1, ← HNw.out.1]; exact hwe.2
            have HPc : Hid (∀ W, Below wr.heap.size wr W → Calls Try.prog 36 #[.pointer (some ⟨rb, 0, none⟩), .int .i64 (wi : Int)] W fun e w' => e = .returned (.tuple #[]) ∧ ApP o Z rb cf w') := fun W hW => by
              have hk := HR1.out.1.below hW
              refine (pick_k hk.kp HR1.out.2.1 (by decide) hwl).mono ?_
              rintro e W' ⟨rfl, hst⟩
              exact ⟨rfl, ApP.step hk HR1.out.2.1 HR1.out.2.2.1 HR1.out.2.2.2.1 HR1.out.2.2.2.2 hwl hst⟩
            have hpl2 : pb < wr.heap.size := hpl
            have hrl := hN1.kp.lt
            clear hbz hcl e2 hjl hpx hwi hwe hwl hN1 hK1 hA1 hT1 hC1 hpl
            go_wp2
            go_region_with (first | (go_at_call 19; refine (HPk.out _).mono ?_; rintro e Wp ⟨rfl, hWp⟩; have HBp : Hid (Below wr.heap.size wr Wp) := (by rw [hWp]; exact (Below.refl _ _).drew); clear hWp) | (go_at_call 36; refine (HPc.out _ HBp.out).mono ?_; rintro e Ws ⟨rfl, hAp⟩; have HE : Hid (ApP o Z rb cf Ws) := hAp; clear hAp))
            all_goals
              go_wp2
              go_roundw
              case rel => exact ⟨j + 1, by omega, by go_num, HE.out⟩
              case measure => simp [intOf]; omega
          · obtain rfl : j = pn := by omega
            have hF := finish_k (J := fun R => ApI R ∧ ApT R) (fun R i hk hj hi => ⟨ap_pick hk.k hj.1 hi, apt_pick hj.2 i⟩) hN1.kp hK1 ⟨hA1, hT1⟩ (by decide)
            rw [hC1] at hF
            unfold ptrV at hF
            clear hN1 hK1 hA1 hT1 hC1
            go_wp2_with fail
            refine hF.mono ?_
            clear hF
            rintro e Z2 ⟨rfl, R, hst, hk', ⟨hA', hT'⟩, ho', hc'⟩
            obtain ⟨o2, v2, hn2⟩ := HR1.out.1.stp2 hst
            obtain ⟨M, hM1, hM2, hM3⟩ := ap_last hk'.k hA' hT' ho' hc' HOk.out.1 HOk.out.2
            have HF : Hid (KNow o Z rb o2 Z2 R v2 ∧ KOk 4 R ∧ R.d.c = cf) := ⟨hn2, hk', hc'⟩
            have HM : Hid (M 1 = [(3, 7)] ∧ M R.d.jobs.length = listOf (mapF R.d.goods) ∧ ∀ n, n < R.d.jobs.length → ApM R M n) := ⟨hM1, hM2, hM3⟩
            have c10 : Z2.cell? ⟨rb, 10, none⟩ = some (.int .i64 (R.again : Int)) := hn2.kp.cell 10
            rw [ap_again hk'.k hA'] at c10
            obtain ⟨T, hT⟩ : ∃ T, T = R.tasks.length := ⟨_, rfl⟩
            have HT : Hid (T = R.tasks.length ∧ R.d.jobs.length = T) := ⟨hT, by rw [hT, hk'.k.len]⟩
            have hT0 : 1 ≤ T ∧ T ≤ 4 := ⟨by rw [← HT.out.2]; exact Nat.le_trans hA'.goods.1 (goods_le hk'.k.inv), by rw [hT]; exact hk'.len⟩
            obtain ⟨fu, hfu⟩ : ∃ fu, fu = cf.fuel := ⟨_, rfl⟩
            have HFu : Hid (fu = cf.fuel) := hfu
            clear hst hk' hA' hT' ho' hc' hn2 hM1 hM2 hM3 hT hfu HR1
            go_wp2
            go_loopw [12, 13] (fun x y wr => ∃ (k : Nat) (mva : Option Addr) (mn mvc : Nat), x = .slice mva mn mvc ∧ 1 ≤ k ∧ k ≤ T ∧ y = .int .i64 ((k : Int) + 1) ∧ PairsV wr wr.heap.size (.slice mva mn mvc) (M k) ∧ KNow o Z rb o2 wr R v2) (fun _ y _ => T + 1 - (intOf y).toNat)
            case atStart => exact ⟨1, _, _, _, rfl, Nat.le_refl _, hT0.1, rfl, by rw [HM.out.1]; exact own37 Z2, HF.out.1.below ((Below.refl _ _).alloc (Nat.le_refl _) _)⟩
            case round =>
              obtain ⟨k, mva, mn, mvc, rfl, hk1, hkT, rfl, hpr, hkn⟩ := hrel
              have HK : Hid (KNow o Z rb o2 wr R v2) := hkn
              have HPr : Hid (PairsV wr wr.heap.size (.slice mva mn mvc) (M k)) := hpr
              clear hpr c10
              have c5 : wr.cell? ⟨rb, 5, none⟩ = some v2.tv := hkn.kp.cell 5
              obtain ⟨ta, tc, htv⟩ := owns_form (hkn.kp.tasks nX).1
              rw [htv, ← HT.out.1] at c5
              have c0 : wr.cell? ⟨rb, 0, none⟩ = some (.pointer (some ⟨R.xb, 0, none⟩)) := hkn.kp.cell 0
              clear hkn htv
              by_cases hlt2 : k < T
              · have m0 : (k : Int) + 1 ≤ (T : Int) := by omega
                have hkj : k < R.d.jobs.length := by rw [HT.out.2]; exact hlt2
                have hP := kitP.poll (fun k => o2 k = some 4) wr R.xb R.d ((k : Int) + 1) (HK.out.kp.desk nX) (by rw [HT.out.2]; omega) (told_le HF.out.2.1.k.inv)
                have hpe := poll_yes (d := R.d) (i := k) hkj
                have e0 : R.d.jobs.getD k jobM0 = R.d.job (k + 1) := rfl
                have hM := HM.out.2.2 k hkj
                unfold ApM at hM
                rw [HF.out.2.2, ← HFu.out] at hM
                rw [e0, hM.2.2.2.2.2] at hpe
                have HTl : Hid ((R.d.job (k + 1)).told.length ≤ 1000) := told_le HF.out.2.1.k.inv k hkj
                obtain ⟨st, hst⟩ : ∃ st, st = (R.d.job (k + 1)).state := ⟨_, rfl⟩
                obtain ⟨tl, htl⟩ : ∃ tl, tl = (R.d.job (k + 1)).told := ⟨_, rfl⟩
                rw [← hst, ← htl] at hpe hM
                rw [← htl] at HTl
                obtain ⟨l, hl⟩ : ∃ l, l = (R.tk (k + 1)).steps := ⟨_, rfl⟩
                have HLs : Hid (l = (R.tk (k + 1)).steps) := hl
                rw [← hl] at hM
                have HRn : Hid (runErr l (M k) fu = 0 ∧ runTries l (M k) fu = 1 ∧ runSt l (M k) fu = st ∧ runTold l (M k) fu = tl ∧ runMap l (M k) fu = M (k + 1)) := ⟨hM.1, hM.2.1, hM.2.2.1, hM.2.2.2.1, hM.2.2.2.2.1⟩
                unfold ptrV at hP
                have hwr : IntKind.i64.wrap ((k : Int) + 1 - 1) = (k : Int) := by rw [IntKind.wrap_i64]; omega
                have hwr2 : IntKind.i64.wrap ((k : Int) + 1 + 1) = (k : Int) + 1 + 1 := by rw [IntKind.wrap_i64]; omega
                have mk1 : (k : Int) < (T : Int) := by omega
                clear hM e0 hst htl hl hkj
                go_wp2_with fail
                refine hP.mono ?_
                clear hP c0 c5
                rintro e W5 ⟨tv, rfl, hrow, hb5⟩
                rw [hpe] at hrow ⊢
                simp only at hrow ⊢
                obtain ⟨tva, tvc, rfl⟩ := owns_form hrow
                obtain ⟨L, hL⟩ : ∃ L, L = tl.length := ⟨_, rfl⟩
                have HL : Hid (L = tl.length) := hL
                have HX5 : Hid (ApX o Z rb R o2 v2 (.slice mva mn mvc) (M k) W5.heap.size st (.slice tva L tvc) tl (W5.alloc (.cells #[.int .i64 st, .slice tva L tvc, .int .i64 1] 44))) := by
                  have hba : Below wr.heap.size wr (W5.alloc (.cells #[.int .i64 st, .slice tva L tvc, .int .i64 1] 44)) := hb5.trans ((Below.refl _ _).alloc hb5.size _)
                  refine ⟨HK.out.below hba, HPr.out.grow hba, heap_alloc_new _ _, ?_⟩
                  rw [hL]
                  exact owns_keep (owns_base hrow (Nat.zero_le _)) ((Below.refl _ _).alloc (Nat.le_refl _) _)
                rw [← hL]
                clear hrow hb5 hL hpe HPr HK
                go_upto_region 21 with fail
                refine name_wp (p := fun X => ApX o Z rb R o2 v2 (.slice mva mn mvc) (M k) W5.heap.size st (.slice tva L tvc) tl X) HX5.out ?_
                clear HX5
                rintro X hX
                generalize W5.heap.size = ob at hX ⊢
                clear W5
                have HX : Hid (ApX o Z rb R o2 v2 (.slice mva mn mvc) (M k) ob st (.slice tva L tvc) tl X) := hX
                have hkt : k < R.tasks.length := by rw [← HT.out.1]; exact hlt2
                obtain ⟨gt, tcap, tb, htp⟩ := hX.now.kp.tkPl (j := k) hkt
                have c5 := htp.c5
                rw [← HT.out.1] at c5
                have cp := htp.cell
                obtain ⟨sa, sc, hsv⟩ := owns_form (hX.now.kp.st k hkt nX).1
                obtain ⟨sn, hsn⟩ : ∃ sn, sn = (R.tasks.getD k tk0).steps.length := ⟨_, rfl⟩
                rw [← hsn] at hsv
                have cs : X.cell? ⟨tb, 0, none⟩ = some (.slice sa sn sc) := by rw [← hsv]; exact htp.tcell 0
                have c3 : X.cell? ⟨rb, 3, none⟩ = some (.int .i64 (fu : Int)) := by
                  have : X.cell? ⟨rb, 3, none⟩ = some (.int .i64 (R.c.fuel : Int)) := hX.now.kp.cell 3
                  rw [HF.out.2.1.k.conf, HF.out.2.2, ← HFu.out] at this
                  exact this
                obtain ⟨an, han⟩ : ∃ an, an = (M (k + 1)).length := ⟨_, rfl⟩
                have HAn : Hid (an = (M (k + 1)).length) := han
                have hnl : (M (k + 1)).length ≤ 16 := by rw [← HRn.out.2.2.2.2]; exact runMap_len l (M k) fu
                have HNl : Hid ((M (k + 1)).length ≤ 16) := hnl
                have hnl : (M (k + 1)).length ≤ 16 := by rw [← HRn.out.2.2.2.2]; exact runMap_len l (M k) fu
                have HNl : Hid ((M (k + 1)).length ≤ 16) := hnl
                have hnl : (M (k + 1)).length ≤ 16 := by rw [← HRn.out.2.2.2.2]; exact runMap_len l (M k) fu
                have HNl : Hid ((M (k + 1)).length ≤ 16) := hnl
                have hnl : (M (k + 1)).length ≤ 16 := by rw [← HRn.out.2.2.2.2]; exact runMap_len l (M k) fu
                have HNl : Hid ((M (k + 1)).length ≤ 16) := hnl
                have HRun : Hid (∀ Y, Below X.heap.size X Y → Calls Try.prog 20 #[.slice sa sn sc, .slice mva mn mvc, .int .i64 (fu : Int)] Y fun e w' => ApY Y st tl L an (M (k + 1)) e w') := fun Y hY => by
                  have hXY := HX.out.below hY
                  have hS : StepsV Y (.slice sa sn sc) l := by
                    rw [HLs.out, ← hsv]
                    exact stepsV_own (hXY.now.kp.st k hkt nX).1
                  refine (run_ok (.slice sa sn sc) (.slice mva mn mvc) l (M k) fu Y hS hXY.map).mono ?_
                  rintro e W8 ⟨tv2, av2, rfl, h1, h2, hb8⟩
                  obtain ⟨r1, r2, r3, r4, r5⟩ := HRn.out
                  rw [r1, r2, r3]
                  rw [r4] at h1
                  rw [r5] at h2
                  obtain ⟨tva2, tvc2, rfl⟩ := owns_form h1
                  obtain ⟨ava2, avc2, rfl⟩ := owns_form h2
                  rw [← HL.out, ← HAn.out]
                  refine ⟨tva2, tvc2, ava2, avc2, rfl, ?_, ?_, hb8⟩
                  · rw [HL.out]; exact h1
                  · rw [HAn.out]; exact h2
                have hrl : rb < X.heap.size := hX.now.kp.lt
                have hgl : gt < X.heap.size := World.block_lt_of_cell? X _ cp
                have htbl : tb < X.heap.size := World.block_lt_of_cell? X _ cs
                have n1 := World.new_ne X _ c5
                have n2 := World.new_ne X _ cp
                have n3 := World.new_ne X _ cs
                have n4 := World.new_ne X _ c3
                have HS4 : Hid (∀ W, Below X.heap.size X W → W.cell? ⟨rb, 5, none⟩ = some (.slice (some ⟨gt, 0, none⟩) T tcap) ∧ W.cell? ⟨gt, k, none⟩ = some (.pointer (some ⟨tb, 0, none⟩)) ∧ W.cell? ⟨tb, 0, none⟩ = some (.slice sa sn sc) ∧ W.cell? ⟨rb, 3, none⟩ = some (.int .i64 (fu : Int))) := fun W hW => ⟨(hW.cell (p := ⟨rb, 5, none⟩) hrl).trans c5, (hW.cell (p := ⟨gt, k, none⟩) hgl).trans cp, (hW.cell (p := ⟨tb, 0, none⟩) htbl).trans cs, (hW.cell (p := ⟨rb, 3, none⟩) hrl).trans c3⟩
                have mk0 : (0 : Int) ≤ (k : Int) := by omega
                have HA : Hid (Below X.heap.size X X.drew) := (Below.refl _ _).drew
                have HB : Hid (Below X.heap.size X (X.alloc outO).drew) := ((Below.refl _ _).alloc (Nat.le_refl _) _).drew
                have hwk : IntKind.i64.wrap (k : Int) = (k : Int) := by rw [IntKind.wrap_i64]; omega
                clear hX htp hkt hsn hsv han m0 hnl
                go_wp2
                go_cut [16, 17, 18] (fun x y z wx => ApC o Z rb R o2 v2 (.slice mva mn mvc) (M k) ob st (.slice tva L tvc) tl L an (M (k + 1)) x y z wx)
                case first =>
                  go_region_held3 (fun w' => w'.cell? ⟨rb, 5, none⟩ = some (.slice (some ⟨gt, 0, none⟩) T tcap) ∧ w'.cell? ⟨gt, k, none⟩ = some (.pointer (some ⟨tb, 0, none⟩)) ∧ w'.cell? ⟨tb, 0, none⟩ = some (.slice sa sn sc) ∧ w'.cell? ⟨rb, 3, none⟩ = some (.int .i64 (fu : Int))) (go_keep) (first | (go_at_call 20; refine (HRun.out _ HA.out).mono ?_; rintro e W8 ⟨tva2, tvc2, ava2, avc2, rfl, hX8⟩; have HW8 : Hid (ApV X.drew tva2 tvc2 ava2 avc2 tl L an (M (k + 1)) W8) := hX8; obtain ⟨k1, k2, k3, k4⟩ := HS4.out W8 (HA.out.trans hX8.2.2); clear hX8) | (go_at_call 20; refine (HRun.out _ HB.out).mono ?_; rintro e W8 ⟨tva2, tvc2, ava2, avc2, rfl, hX8⟩; have HW8 : Hid (ApV (X.alloc outO).drew tva2 tvc2 ava2 avc2 tl L an (M (k + 1)) W8) := hX8; obtain ⟨k1, k2, k3, k4⟩ := HS4.out W8 (HB.out.trans (hX8.2.2.mono HB.out.size)); obtain ⟨b0, b1, b2, bf, bl⟩ := out_box ((hX8.2.2.block X.heap.size (by show _ < (X.alloc _).heap.size; simp)).trans (box_out X)); clear hX8))
                  all_goals
                    go_wp2_with fail
                    go_meet
                    first | exact apcA HX.out HNl.out HW8.out | exact apcB HX.out HNl.out HW8.out
                case rest =>
                  clear HRun HA HB HX c3 cs cp c5 hrl hgl htbl n1 n2 n3 n4 HS4 mk0
                  obtain ⟨pb, tva2, tvc2, ava2, avc2, rfl, rfl, rfl, hX8, hpb, ho8, hp8⟩ := hcut
                  obtain ⟨b0, b1, b2, _, bl8⟩ := out_box hX8.box
                  obtain ⟨q0, q1, q2, _, ql8⟩ := out_box hpb
                  have hSO := pivotkeep_sameOutcome_any st 1 st 1 _ _ tl tl wc (intsV_own hX8.told (by have := HTl.out; omega)) (intsV_own ho8 (by have := HTl.out; omega))
                  have HV : Hid (ApX o Z rb R o2 v2 (.slice mva mn mvc) (M k) ob st (.slice tva L tvc) tl wc ∧ PairsV wc wc.heap.size (.slice ava2 an avc2) (M (k + 1))) := ⟨hX8, hp8⟩
                  clear hX8 hpb ho8 hp8
                  go_wp2_with fail
                  refine hSO.mono ?_
                  clear hSO b0 b1 b2 bl8 q0 q1 q2 ql8
                  rintro e V2 ⟨rfl, hb⟩
                  simp only [decide_true, Bool.and_self]
                  have HV2 : Hid (ApX o Z rb R o2 v2 (.slice mva mn mvc) (M k) ob st (.slice tva L tvc) tl V2 ∧ PairsV V2 V2.heap.size (.slice ava2 an avc2) (M (k + 1))) := ⟨HV.out.1.below hb, HV.out.2.grow hb⟩
                  obtain ⟨b0, b1, b2, _, bl8⟩ := out_box HV2.out.1.box
                  clear HV hb
                  go_wp2
                  go_roundw
                  case rel => exact ⟨k + 1, _, _, _, rfl, by omega, by omega, by go_num, HV2.out.2, HV2.out.1.now⟩
                  case measure => simp [intOf]; omega
              · have m0 : ¬ (k : Int) + 1 ≤ (T : Int) := by omega
                obtain rfl : k = T := by omega
                have hMp := kitP.map (fun k => o2 k = some 4) wr R.xb R.d (HK.out.kp.desk nX)
                unfold ptrV at hMp
                go_wp2_with fail
                refine hMp.mono ?_
                clear hMp c0 c5
                rintro e W7 ⟨av, rfl, harow, hb7⟩
                have HW7 : Hid (PairsV W7 W7.heap.size (.slice mva mn mvc) (M k) ∧ PairsV W7 W7.heap.size av (M k) ∧ Below w.heap.size w W7) := by
                  refine ⟨HPr.out.grow hb7, ?_, ?_⟩
                  · have e1 : M k = listOf (mapF R.d.goods) := by rw [← HT.out.2]; exact HM.out.2.1
                    rw [e1]
                    exact pairsV_own harow (by have := listOf_len (mapF R.d.goods); omega)
                  · have hbz : Below w.heap.size w wr := HZ.out.2.2.trans (HK.out.fr.below (fun k hk => HZ.out.2.1 k hk.some) HZ.out.2.2.size)
                    exact hbz.trans (hb7.mono hbz.size)
                obtain ⟨ava, avc, rfl⟩ := owns_form harow
                obtain ⟨an, han⟩ : ∃ an, an = (listOf (mapF R.d.goods)).length := ⟨_, rfl⟩
                rw [← han] at HW7 ⊢
                clear harow hb7 HPr HK han
                go_wp2_with fail
                refine (pivotkeep_samePairs_any _ _ _ _ (M k) (M k) W7 HW7.out.1 HW7.out.2.1).mono ?_
                rintro e V3 ⟨rfl, hb⟩
                simp only [decide_true]
                have HE : Hid (Below w.heap.size w V3) := HW7.out.2.2.trans (hb.mono HW7.out.2.2.size)
                clear hb HW7
                go_wp2
                go_ret
                exact ⟨rfl, HE.out⟩
end Go.Proofs.Ytlbmcdoldnajoaa
