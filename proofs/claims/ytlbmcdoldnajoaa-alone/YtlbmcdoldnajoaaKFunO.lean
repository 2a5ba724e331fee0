import Derived.Test.YtlbmcdoldnajoaaKPo

namespace Go.Proofs.Ytlbmcdoldnajoaa
open Go.RowKit
/-- lists of numbers that lie below B -/
def JbAt (B : Nat) (w : World) (v : Value) (J : List (Value × List Int)) : Prop :=
  (∃ ao cap, v = .slice ao J.length cap ∧ (J = [] ∨ ∃ b off, ao = some ⟨b, off, none⟩ ∧ b < B ∧ ∀ i, i < J.length → w.cell? ⟨b, off + i, none⟩ = some (J.getD i (nilV, [])).1)) ∧
  ∀ s ∈ J, (∀ x ∈ s.2, i64B x) ∧ (∀ W, Below B w W → IntsV W s.1 s.2) ∧ ∀ ao n cap, s.1 = .slice ao n cap → n ≤ cap
theorem JbAt.below {B : Nat} {w W : World} {v : Value} {S : List (Value × List Int)} (h : JbAt B w v S) (hb : Below B w W) : JbAt B W v S := by
  obtain ⟨⟨ao, cap, hv, h1⟩, h2⟩ := h
  refine ⟨⟨ao, cap, hv, ?_⟩, fun s hs => ?_⟩
  · rcases h1 with h1 | ⟨b, off, e, hl, hc⟩
    · exact Or.inl h1
    · exact Or.inr ⟨b, off, e, hl, fun i hi => (hb.cell (p := ⟨b, _, none⟩) hl).trans (hc i hi)⟩
  · obtain ⟨a3, a4, a5⟩ := h2 s hs
    exact ⟨a3, fun W' hW' => a4 W' (hb.trans hW'), a5⟩
/-- the run, the steps handed in last (the run's own, never written), the map ahead of them (the law's own) -/
structure AlZ (o : Nat → Option Nat) (Z : World) (rb : Nat) (R : RM) (t : Nat) (mv : Value) (l : List St) (bv : Value) (bl : List (Int × Int)) (o1 : Nat → Option Nat) (v1 : KV) (W : World) : Prop where
  now : KNow o Z rb o1 W R v1
  st : Row o1 (6 + 3 * t) W 40 4 mv l.length (stCells l)
  bef : W.ownsRow 0 42 2 bv bl.length (prCells bl)
  out : ∀ k, bv.ownBlock = some k → o1 k = none
theorem AlZ.below {o : Nat → Option Nat} {Z : World} {rb : Nat} {R : RM} {t : Nat} {mv : Value} {l : List St} {bv : Value} {bl : List (Int × Int)} {o1 : Nat → Option Nat} {v1 : KV} {W W' : World} (h : AlZ o Z rb R t mv l bv bl o1 v1 W) (hb : Below W.heap.size W W') : AlZ o Z rb R t mv l bv bl o1 v1 W' :=
  ⟨h.now.below hb, h.st.keep (R := fun _ => False) (Fr.of_below hb) (fun _ _ h => h) (Own.refl _ _), owns_keep h.bef hb, h.out⟩
theorem AlZ.stp {o : Nat → Option Nat} {Z : World} {rb : Nat} {R R' : RM} {t : Nat} {mv : Value} {l : List St} {bv : Value} {bl : List (Int × Int)} {o1 : Nat → Option Nat} {v1 : KV} {W W' : World} (h : AlZ o Z rb R t mv l bv bl o1 v1 W) (hs : KStp o1 W rb R' W') : ∃ o2 v2, AlZ o Z rb R' t mv l bv bl o2 v2 W' := by
  obtain ⟨o2, v2, h1, h2, h3⟩ := hs
  refine ⟨o2, v2, h.now.upd h1 h2 h3, h.st.keep h3 (fun k hk hm => ?_) h2, owns_fr h.bef h3 (fun k hk hm => ?_), fun k hk => ?_⟩
  · obtain ⟨q, e, hq⟩ := hm
    rw [hk] at e
    injection e with e
    omega
  · exact hm.some (h.out k hk)
  · rw [h2 k (owns_lt h.bef hk).2]; exact h.out k hk
/-- behind the Poll: its outcome lies in a box, its told list is the law's own -/
structure AlX (o : Nat → Option Nat) (Z : World) (rb : Nat) (R : RM) (t : Nat) (mv : Value) (l : List St) (bv : Value) (bl : List (Int × Int)) (o1 : Nat → Option Nat) (v1 : KV) (W0 : World) (ob : Nat) (st : Int) (tv : Value) (tl : List Int) (X : World) : Prop where
  z : AlZ o Z rb R t mv l bv bl o1 v1 X
  box : X.heap[ob]? = some (.cells #[.int .i64 st, tv, .int .i64 1] 44 (0, 0))
  told : X.ownsRow 0 3 1 tv tl.length (tl.map (Value.int .i64))
  bel : Below W0.heap.size W0 X
theorem AlX.below {o : Nat → Option Nat} {Z : World} {rb : Nat} {R : RM} {t : Nat} {mv : Value} {l : List St} {bv : Value} {bl : List (Int × Int)} {o1 : Nat → Option Nat} {v1 : KV} {W0 : World} {ob : Nat} {st : Int} {tv : Value} {tl : List Int} {X Y : World} (h : AlX o Z rb R t mv l bv bl o1 v1 W0 ob st tv tl X) (hb : Below X.heap.size X Y) : AlX o Z rb R t mv l bv bl o1 v1 W0 ob st tv tl Y :=
  ⟨h.z.below hb, (hb.block _ (blk_lt h.box)).trans h.box, owns_keep h.told hb, h.bel.trans (hb.mono h.bel.size)⟩
/-- behind the making of the steps -/
structure AlM (o : Nat → Option Nat) (Z : World) (rb : Nat) (R : RM) (mv : Value) (l : List St) (o1 : Nat → Option Nat) (v1 : KV) (W : World) : Prop where
  now : KNow o Z rb o1 W R v1
  st : Row o1 (6 + 3 * R.tasks.length) W 40 4 mv l.length (stCells l)
  new : ∀ k, W.heap.size ≤ k → o1 k = none
theorem alM {o : Nat → Option Nat} {Z : World} {rb : Nat} {R : RM} {mv : Value} {l : List St} {o1 : Nat → Option Nat} {v1 : KV} {wr We Wm : World} (h : KNow o Z rb o1 wr R v1) (h1 : Below wr.heap.size wr We) (h2 : Wm.ownsRow We.heap.size 40 4 mv l.length (stCells l)) (h3 : Below We.heap.size We Wm) : ∃ o2, AlM o Z rb R mv l o2 v1 Wm := by
  have hb : Below wr.heap.size wr Wm := h1.trans (h3.mono h1.size)
  have k1 : KNow o Z rb (grow wr o1 (6 + 3 * R.tasks.length)) Wm R v1 := (h.upd (h.kp.own (own_grow wr _ _)) (own_grow wr _ _) (Fr.refl _ _)).below hb
  have hr : Row (grow wr o1 (6 + 3 * R.tasks.length)) (6 + 3 * R.tasks.length) Wm 40 4 mv l.length (stCells l) := ⟨owns_base h2 (Nat.zero_le _), fun k hk => grow_new (Nat.le_trans h1.size (owns_ge h2 hk))⟩
  exact ⟨cutO Wm (grow wr o1 (6 + 3 * R.tasks.length)), k1.upd (k1.kp.own (own_cutO _ _)) (own_cutO _ _) (Fr.refl _ _), hr.keep (R := fun _ => False) (Fr.refl _ _) (fun _ _ h => h) (own_cutO _ _), fun k hk => cutO_new hk⟩
/-- where Alone stands ahead of the job i -/
def AlI (o : Nat → Option Nat) (Z : World) (rb : Nat) (cf : ConfM) (i : Nat) (wr : World) : Prop := ∃ o1 v1 R1, KNow o Z rb o1 wr R1 v1 ∧ KOk1 (1 + i) R1 ∧ (∀ m, R1.d.Has m → 2 < (R1.d.job m).state) ∧ R1.d.jobs.length = i + 1 ∧ R1.d.c = cf
/-- and within it, behind q picks -/
def AlP (o : Nat → Option Nat) (Z : World) (rb : Nat) (i w : Nat) (R1 : RM) (mv : Value) (l : List St) (bv : Value) (q : Nat) (wr : World) : Prop := ∃ o2 v2 R2, AlZ o Z rb R2 R1.tasks.length mv l bv (listOf (mapF R1.d.goods)) o2 v2 wr ∧ KOk1 (1 + (i + 1)) R2 ∧ R2.d.c = R1.d.c ∧ R2.d.jobs.length = R1.d.jobs.length + 1 ∧ AlQ (R1.d.submit l).1 w (R1.d.jobs.length + 1) l R1.d.goods q R2.d
theorem pickR_len {N : Nat} {R : RM} (h : KOk N R) {i : Nat} (hi : i < R.d.c.workers) : (R.pickR i).d.jobs.length = R.d.jobs.length ∧ (R.pickR i).tasks.length = R.tasks.length := by
  have h1 : (R.pickR i).tasks.length = R.tasks.length := by
    unfold RM.pickR RM.pickN
    split
    · rfl
    · split
      · rfl
      · split
        · simp only [List.length_set]
        · rfl
  exact ⟨by rw [← (h.pick hi).k.len, h1, h.k.len], h1⟩
set_option maxRecDepth 100000 in
set_option maxHeartbeats 2000000 in
theorem alone_walk (a b c d wk : Int) (w : World) (ha : i64B a) (hb : i64B b) (hc : i64B c) (hd : i64B d) (hwk : i64B wk) {J : List (Value × List Int)} (hN : J.length ≤ 800000000) {jv : Value} (hs : JbAt w.heap.size w jv J) :
    Calls Try.prog 9 #[confV a b c d, jv, .int .i64 wk] w fun e w' => e = .returned (.bool true) ∧ Below w.heap.size w w' := by
  have HBg : Hid (∀ W, Calls Try.prog 32 #[.agg #[.int .i64 a, .int .i64 b, .int .i64 c, .int .i64 d]] W fun e w' => BegP (fitM a b c d) W e w') := fun W => begin_k a b c d W ha hb hc hd
  have hok := fit_ok a b c d
  generalize fitM a b c d = cf at *
  have HOk : Hid (((1 ≤ cf.workers ∧ cf.workers ≤ 4) ∧ (1 ≤ cf.queue ∧ cf.queue ≤ 8) ∧ (1 ≤ cf.fuel ∧ cf.fuel ≤ 200) ∧ cf.patience ≤ 5) ∧ 3 ≤ cf.fuel) := hok
  have HS : Hid (JbAt w.heap.size w jv J ∧ J.length ≤ 800000000) := ⟨hs, hN⟩
  obtain ⟨⟨ao, cap, hv, _⟩, _⟩ := hs
  obtain ⟨n, hn⟩ : ∃ n, n = J.length := ⟨_, rfl⟩
  rw [← hn] at hv
  subst hv
  have HNJ : Hid (n = J.length) := hn
  have hn8 : n ≤ 800000000 := by omega
  obtain ⟨nw, hnw⟩ : ∃ nw, nw = cf.workers := ⟨_, rfl⟩
  have hw0 : 1 ≤ nw ∧ nw ≤ 4 := by rw [hnw]; exact hok.1.1
  obtain ⟨wi, hwi⟩ : ∃ wi, wi = (pickI wk nw).toNat := ⟨_, rfl⟩
  have hwe : pickI wk nw = (wi : Int) ∧ wi < nw := by
    have h1 := pickI_lo wk (n := (nw : Int)) (by omega)
    have h2 := pickI_hi wk (n := (nw : Int)) (by omega)
    exact ⟨by omega, by omega⟩
  have HWi : Hid (nw = cf.workers ∧ wi < cf.workers) := ⟨hnw, by rw [← hnw]; exact hwe.2⟩
  have HPk : Hid (∀ W : World, Calls Try.prog 19 #[.int .i64 wk, .int .i64 (nw : Int)] W fun e w' => e = .returned (.int .i64 (wi : Int)) ∧ w' = W) := fun W => by
    have := pick_any wk nw W hwk (by omega) (by omega)
    rw [hwe.1] at this
    exact this
  unfold confV
  clear ha hb hc hd hok hN hn hwk hnw hw0 hwi hwe
  go_enter Try.func9, Try.ntmps9
  go_wp2_with fail
  refine (HBg.out _).mono ?_
  clear HBg
  rintro e Z ⟨rb, xb, o, v, rfl, hkp, ho, hb⟩
  have hbw : Below w.heap.size w (w.alloc (.cells #[.int .i64 a, .int .i64 b, .int .i64 c, .int .i64 d] 34)) := (Below.refl _ _).alloc (Nat.le_refl _) _
  have HZ : Hid (KP o Z rb (run5 cf xb 5) v ∧ (∀ k, o k ≠ none → w.heap.size ≤ k) ∧ Below w.heap.size w Z) := ⟨hkp, fun k hk => Nat.le_trans hbw.size (ho k hk), hbw.trans (hb.mono hbw.size)⟩
  have h5 := run5_ok xb HOk.out.1 HOk.out.2 5
  have HI : Hid (AlI o Z rb cf 0 Z) := ⟨o, v, run5 cf xb 5, KNow.start hkp, ⟨h5.1, by rw [h5.1.k.len, run5_len xb HOk.out.1 HOk.out.2 5]; exact Nat.le_refl _⟩, (run5_end xb HOk.out.1 HOk.out.2).over, run5_len xb HOk.out.1 HOk.out.2 5, h5.2⟩
  have c1 : Z.cell? ⟨rb, 1, none⟩ = some (.int .i64 ((run5 cf xb 5).c.workers : Int)) := hkp.cell 1
  rw [h5.1.k.conf, h5.2, ← HWi.out.1] at c1
  clear hkp ho hb hbw h5
  unfold ptrV
  go_wp2_with fail
  refine (HPk.out Z).mono ?_
  clear HPk
  rintro e Z1 ⟨rfl, hZ1⟩
  obtain rfl := hZ1.symm
  clear hZ1 c1
  go_wp2
  go_loopw [9] (fun x wr => ∃ i : Nat, i ≤ n ∧ x = .int .i64 i ∧ AlI o Z rb cf i wr) (fun x _ => n - (intOf x).toNat)
  case atStart => exact ⟨0, Nat.zero_le _, rfl, HI.out⟩
  case round =>
    obtain ⟨i, hi, rfl, o1, v1, R1, hN1, hK1, hO1, hL1, hC1⟩ := hrel
    have HR1 : Hid (KNow o Z rb o1 wr R1 v1 ∧ KOk1 (1 + i) R1 ∧ (∀ m, R1.d.Has m → 2 < (R1.d.job m).state) ∧ R1.d.jobs.length = i + 1 ∧ R1.d.c = cf) := ⟨hN1, hK1, hO1, hL1, hC1⟩
    clear hN1 hK1 hO1 hL1 hC1 HI
    by_cases hlt : i < n
    · have m1 : (i : Int) < (n : Int) := by omega
      have hil : i < J.length := by rw [← HNJ.out]; exact hlt
      have hbz : Below w.heap.size w wr := HZ.out.2.2.trans (HR1.out.1.fr.below (fun k hk => HZ.out.2.1 k hk.some) HZ.out.2.2.size)
      obtain ⟨⟨ao', cap', hv', hcl⟩, hit⟩ := HS.out.1.below hbz
      injection hv' with e1 e2 e3
      subst e1 e3
      rcases hcl with hcl | ⟨sb, off, e4, hsl, hcl⟩
      · rw [hcl] at hil; exact absurd hil (Nat.not_lt_zero _)
      subst e4
      have s0 := hcl i hil
      have hmem : J.getD i (nilV, []) ∈ J := by simp [List.getD, hil]
      obtain ⟨a3, a4, a5⟩ := hit _ hmem
      generalize J.getD i (nilV, []) = sc at s0 a3 a4 a5
      obtain ⟨slv, sxs⟩ := sc
      simp only at s0 a3 a4 a5
      obtain ⟨sla, sln, slc, hslv⟩ : ∃ ao n cap, slv = .slice ao n cap := by
        obtain ⟨ao, cap, e, _⟩ := a4 wr (Below.refl _ _)
        exact ⟨_, _, _, e⟩
      subst hslv
      obtain ⟨l, hl⟩ : ∃ l, l = mkL sxs 0 16 := ⟨_, rfl⟩
      have HLj : Hid (jobB l = true ∧ l.length ≤ 32) := ⟨by rw [hl]; exact mkL_job _, by rw [hl, mkL_len]; exact Nat.min_le_left _ _⟩
      have HMd : Hid (∀ We, Below wr.heap.size wr We → Calls Try.prog 24 #[.slice sla sln slc, .agg #[.int .i64 0, .int .i64 16]] We fun e w' => StepsNew l We e w') := fun We hWe => by
        rw [hl]
        exact made_any _ sxs 0 16 We a3 (a4 We (hWe.mono hbz.size)) a5 (by decide) (by decide) (by decide) (by decide)
      have hsl2 : sb < wr.heap.size := Nat.lt_of_lt_of_le hsl hbz.size
      clear hbz hcl hit hmem a3 a4 a5 e2 hil hl
      go_wp2
      go_region_with (first | (go_at_call 25; refine (every_any _).mono ?_; rintro e We ⟨rfl, hbe⟩; have HBe : Hid (Below wr.heap.size wr We) := ((Below.refl _ wr).drew).trans hbe; have s1 := (HBe.out.cell (p := ⟨sb, off + i, none⟩) hsl2).trans s0; clear hbe) | (go_at_call 24; refine (HMd.out _ HBe.out).mono ?_; rintro e Wm ⟨mv, rfl, hrow, hbm⟩; obtain ⟨ma, mc, rfl⟩ := owns_form hrow; have HM : Hid (∃ o2, AlM o Z rb R1 (.slice ma l.length mc) l o2 v1 Wm) := alM HR1.out.1 HBe.out hrow hbm; clear hrow hbm))
      all_goals
        obtain ⟨o2, hM⟩ := HM.out
        have HM2 : Hid (AlM o Z rb R1 (.slice ma l.length mc) l o2 v1 Wm) := hM
        have c0 : Wm.cell? ⟨rb, 0, none⟩ = some (.pointer (some ⟨R1.xb, 0, none⟩)) := hM.now.kp.cell 0
        have hMap := kitP.map (fun k => o2 k = some 4) Wm R1.xb R1.d (hM.now.kp.desk nX)
        obtain ⟨bl, hbl⟩ : ∃ bl, bl = listOf (mapF R1.d.goods) := ⟨_, rfl⟩
        have HBl : Hid (bl = listOf (mapF R1.d.goods)) := hbl
        obtain ⟨ln, hln⟩ : ∃ ln, ln = l.length := ⟨_, rfl⟩
        have HLn : Hid (ln = l.length) := hln
        rw [← hln] at HM2 ⊢
        unfold ptrV at hMap
        clear hM HM hln s0 HMd hbl HBe
        go_wp2_with fail
        refine hMap.mono ?_
        clear hMap c0
        rintro e Wb ⟨bv, rfl, hrow, hbb⟩
        rw [← HBl.out] at hrow
        obtain ⟨ba, bc, rfl⟩ := owns_form hrow
        have HAZ : Hid (AlZ o Z rb R1 R1.tasks.length (.slice ma ln mc) l (.slice ba bl.length bc) bl o2 v1 Wb) := ⟨HM2.out.now.below hbb, HM2.out.st.keep (R := fun _ => False) (Fr.of_below hbb) (fun _ _ h => h) (Own.refl _ _), owns_base hrow (Nat.zero_le _), fun k hk => HM2.out.new k (owns_ge hrow hk)⟩
        have hSay := say_k HAZ.out.now.kp HR1.out.2.1.ok (by have := HS.out.2; have := HNJ.out; omega) HLj.out.1 HAZ.out.st
        obtain ⟨bn, hbn⟩ : ∃ bn, bn = bl.length := ⟨_, rfl⟩
        have HBn : Hid (bn = bl.length) := hbn
        rw [← hbn] at HAZ ⊢
        unfold ptrV at hSay
        clear hrow hbb HM2 hbn
        go_wp2_with fail
        refine hSay.mono ?_
        clear hSay
        rintro e Ws ⟨rfl, hst⟩
        have hsr : R1.sayR l = { R1 with d := (R1.d.submit l).1, tasks := R1.tasks ++ [⟨l, 0, 0, false, []⟩] } := by
          unfold RM.sayR
          rw [if_neg (by rw [over_wait HR1.out.2.1.ok.k.inv HR1.out.2.2.1]; have := HR1.out.2.1.ok.k.inv.conf; omega)]
        have hsd : (R1.d.submit l).1.c = R1.d.c ∧ (R1.d.submit l).1.jobs.length = R1.d.jobs.length + 1 := by
          rw [congrArg Prod.fst (al_say HR1.out.2.1.ok.k.inv HR1.out.2.2.1 HLj.out.1)]
          exact ⟨rfl, by simp⟩
        have hk2 := HR1.out.2.1.ok.say HLj.out.1
        have HP0 : Hid (AlP o Z rb i wi R1 (.slice ma ln mc) l (.slice ba bn bc) 0 Ws) := by
          obtain ⟨o3, v3, hz⟩ := HAZ.out.stp hst
          rw [HBl.out] at hz
          exact ⟨o3, v3, R1.sayR l, hz, ⟨hk2.mono (by omega), by rw [hsr]; simp⟩, by rw [hsr]; exact hsd.1, by rw [hsr]; exact hsd.2, Or.inl ⟨rfl, by rw [hsr]⟩⟩
        have c3 : Ws.cell? ⟨rb, 3, none⟩ = some (.int .i64 (cf.fuel : Int)) := by
          obtain ⟨o3, v3, R2, hz, hk3, hc3, _⟩ := HP0.out
          have : Ws.cell? ⟨rb, 3, none⟩ = some (.int .i64 (R2.c.fuel : Int)) := hz.now.kp.cell 3
          rw [hk3.ok.k.conf, hc3, HR1.out.2.2.2.2] at this
          exact this
        obtain ⟨fu, hfu⟩ : ∃ fu, fu = cf.fuel := ⟨_, rfl⟩
        have HFu : Hid (fu = cf.fuel ∧ fu ≤ 200) := ⟨hfu, by rw [hfu]; exact HOk.out.1.2.2.1.2⟩
        have hfu2 : fu ≤ 200 := HFu.out.2
        rw [← hfu] at c3
        have hwf : IntKind.i64.wrap ((fu : Int) + 2) = ((fu + 2 : Nat) : Int) := by rw [IntKind.wrap_i64]; omega
        clear hst hsr hsd hk2 HAZ hfu
        go_wp2
        clear c3 hwf
        go_loopw [12] (fun x wr2 => ∃ q : Nat, q ≤ fu + 2 ∧ x = .int .i64 ((fu + 2 - q : Nat) : Int) ∧ AlP o Z rb i wi R1 (.slice ma ln mc) l (.slice ba bn bc) q wr2) (fun x _ => (intOf x).toNat)
        case atStart => exact ⟨0, Nat.zero_le _, rfl, HP0.out⟩
        case round =>
          obtain ⟨q, hq, rfl, o2, v2, R2, hZ2, hK2, hC2, hL2, hQ2⟩ := hrel
          have HA0 : Hid ((AlZ o Z rb R2 R1.tasks.length (.slice ma ln mc) l (.slice ba bn bc) (listOf (mapF R1.d.goods)) o2 v2 wr ∧ KOk1 (1 + (i + 1)) R2 ∧ R2.d.c = R1.d.c ∧ R2.d.jobs.length = R1.d.jobs.length + 1) ∧ AlQ (R1.d.submit l).1 wi (R1.d.jobs.length + 1) l R1.d.goods q R2.d) := ⟨⟨hZ2, hK2, hC2, hL2⟩, hQ2⟩
          have hN9 : 1 + (i + 1) ≤ 900000000 := by have := HS.out.2; have := HNJ.out; omega
          have hwl : wi < R1.d.c.workers := by rw [HR1.out.2.2.2.2]; exact HWi.out.2
          clear hZ2 hK2 hC2 hL2 hQ2 HP0
          by_cases hq0 : q = fu + 2
          · subst hq0
            have HAe : Hid (Ae R2.d (i + 1 + 1) l R1.d.goods ∧ R2.d.c = R1.d.c) := by
              refine ⟨?_, HA0.out.1.2.2.1⟩
              have := alq_last hwl HA0.out.1.2.1.ok.k.inv HA0.out.1.2.2.1 (by rw [HR1.out.2.2.2.2, ← HFu.out.1]; exact HA0.out.2)
              rw [HR1.out.2.2.2.1] at this
              exact this
            have HA : Hid (AlZ o Z rb R2 R1.tasks.length (.slice ma ln mc) l (.slice ba bn bc) bl o2 v2 wr ∧ KOk1 (1 + (i + 1)) R2 ∧ R2.d.c = R1.d.c ∧ R2.d.jobs.length = R1.d.jobs.length + 1) := by rw [HBl.out]; exact HA0.out.1
            have m0 : ¬ (0 : Int) < ((fu + 2 - (fu + 2) : Nat) : Int) := by omega
            have m0n : ¬ 0 < fu + 2 - (fu + 2) := by omega
            have hNx := HAe.out
            have c0 : wr.cell? ⟨rb, 0, none⟩ = some (.pointer (some ⟨R2.xb, 0, none⟩)) := HA.out.1.now.kp.cell 0
            have hP := kitP.poll (fun k => o2 k = some 4) wr R2.xb R2.d ((i : Int) + 2) (HA.out.1.now.kp.desk nX) (by rw [HA.out.2.2.2, HR1.out.2.2.2.1]; omega) (told_le HA.out.2.1.ok.k.inv)
            have hpe := poll_yes (d := R2.d) (i := i + 1) (by rw [HA.out.2.2.2, HR1.out.2.2.2.1]; omega)
            rw [show ((i + 1 : Nat) : Int) + 1 = (i : Int) + 2 by omega] at hpe
            have e0 : R2.d.jobs.getD (i + 1) jobM0 = R2.d.job (i + 1 + 1) := rfl
            rw [e0, hNx.1.tries] at hpe
            have HTl : Hid ((R2.d.job (i + 1 + 1)).told.length ≤ 1000) := told_le HA.out.2.1.ok.k.inv (i + 1) (by rw [HA.out.2.2.2, HR1.out.2.2.2.1]; omega)
            have HRn : Hid (runErr l bl cf.fuel = 0 ∧ runSt l bl cf.fuel = (R2.d.job (i + 1 + 1)).state ∧ runTold l bl cf.fuel = (R2.d.job (i + 1 + 1)).told ∧ runMap l bl cf.fuel = listOf (mapF R2.d.goods) ∧ runTries l bl cf.fuel = 1) := by
              rw [HBl.out, ← HR1.out.2.2.2.2]
              have h1 := ae_run HR1.out.2.1.ok.k.inv HLj.out.1 hNx.1 hNx.2
              exact ⟨h1.1, h1.2.1, h1.2.2.1, h1.2.2.2, by unfold runTries; rw [if_pos h1.1]⟩
            have HOv : Hid (∀ m, R2.d.Has m → 2 < (R2.d.job m).state) := hNx.1.over
            have hwi2 : IntKind.i64.wrap ((i : Int) + 2) = (i : Int) + 2 := by rw [IntKind.wrap_i64]; omega
            obtain ⟨st, hst⟩ : ∃ st, st = (R2.d.job (i + 1 + 1)).state := ⟨_, rfl⟩
            obtain ⟨tl, htl⟩ : ∃ tl, tl = (R2.d.job (i + 1 + 1)).told := ⟨_, rfl⟩
            rw [← hst, ← htl] at hpe HRn
            rw [← htl] at HTl
            obtain ⟨al, hal⟩ : ∃ al, al = listOf (mapF R2.d.goods) := ⟨_, rfl⟩
            have HMp : Hid (∀ W, Below wr.heap.size wr W → Calls Try.prog 33 #[.pointer (some ⟨R2.xb, 0, none⟩)] W fun e w' => ∃ v, e = .returned v ∧ w'.ownsRow W.heap.size 42 2 v al.length (prCells al) ∧ Below W.heap.size W w') := fun W hW => by
              rw [hal]
              exact kitP.map (fun k => o2 k = some 4) W R2.xb R2.d ((HA.out.1.now.kp.below hW).desk nX)
            rw [← hal] at HRn
            unfold ptrV at hP
            clear hNx hst htl hal e0 HAe
            have HX0 : Hid (AlZ o Z rb R2 R1.tasks.length (.slice ma ln mc) l (.slice ba bn bc) bl o2 v2 wr) := HA.out.1
            go_wp2_with fail
            refine hP.mono ?_
            clear hP c0
            rintro e W5 ⟨tv, rfl, hrow, hb5⟩
            rw [hpe] at hrow ⊢
            simp only at hrow ⊢
            obtain ⟨tva, tvc, rfl⟩ := owns_form hrow
            obtain ⟨L, hL⟩ : ∃ L, L = tl.length := ⟨_, rfl⟩
            have HL : Hid (L = tl.length) := hL
            have HX5 : Hid (AlX o Z rb R2 R1.tasks.length (.slice ma ln mc) l (.slice ba bn bc) bl o2 v2 wr W5.heap.size st (.slice tva L tvc) tl (W5.alloc (.cells #[.int .i64 st, .slice tva L tvc, .int .i64 1] 44))) := by
              have hba : Below wr.heap.size wr (W5.alloc (.cells #[.int .i64 st, .slice tva L tvc, .int .i64 1] 44)) := hb5.trans ((Below.refl _ _).alloc hb5.size _)
              refine ⟨HX0.out.below hba, heap_alloc_new _ _, ?_, hba⟩
              rw [hL]
              exact owns_keep (owns_base hrow (Nat.zero_le _)) ((Below.refl _ _).alloc (Nat.le_refl _) _)
            have c0 : W5.cell? ⟨rb, 0, none⟩ = some (.pointer (some ⟨R2.xb, 0, none⟩)) := (HX0.out.below hb5).now.kp.cell 0
            rw [← hL]
            have hrl : rb < W5.heap.size := (HX0.out.below hb5).now.kp.lt
            clear hrow hb5 hL hpe HX0
            go_wp2_with fail
            refine name_calls (p := fun X => AlX o Z rb R2 R1.tasks.length (.slice ma ln mc) l (.slice ba bn bc) bl o2 v2 wr W5.heap.size st (.slice tva L tvc) tl X) HX5.out ?_
            clear HX5 c0 hrl
            rintro X hX
            generalize W5.heap.size = ob at hX ⊢
            clear W5
            refine (HMp.out X hX.bel).mono ?_
            clear HMp
            rintro e W7 ⟨av, rfl, harow, hb7⟩
            obtain ⟨ava, avc, rfl⟩ := owns_form harow
            obtain ⟨an, han⟩ : ∃ an, an = al.length := ⟨_, rfl⟩
            have HAn : Hid (an = al.length) := han
            rw [← han]
            have HW7 : Hid (AlX o Z rb R2 R1.tasks.length (.slice ma ln mc) l (.slice ba bn bc) bl o2 v2 wr ob st (.slice tva L tvc) tl W7 ∧ PairsV W7 W7.heap.size (.slice ava an avc) al) := ⟨hX.below hb7, by rw [han]; exact pairsV_own harow (by rw [← HRn.out.2.2.2.1]; have := runMap_len l bl cf.fuel; omega)⟩
            have c3 : W7.cell? ⟨rb, 3, none⟩ = some (.int .i64 (fu : Int)) := by
              have : W7.cell? ⟨rb, 3, none⟩ = some (.int .i64 (R2.c.fuel : Int)) := HW7.out.1.z.now.kp.cell 3
              rw [HA.out.2.1.ok.k.conf, HA.out.2.2.1, HR1.out.2.2.2.2, ← HFu.out.1] at this
              exact this
            clear harow hb7 hX han
            go_wp2_with fail
            have hRun := run_ok (.slice ma ln mc) (.slice ba bn bc) l bl cf.fuel W7 (stepsV_own HW7.out.1.z.st.1) (pairsV_own HW7.out.1.z.bef (by rw [HBl.out]; have := listOf_len (mapF R1.d.goods); omega))
            rw [← HFu.out.1] at hRun
            refine hRun.mono ?_
            clear hRun c3
            rintro e W8 ⟨tv2, av2, rfl, h1, h2, hb8⟩
            have hr' := HRn.out
            rw [← HFu.out.1] at hr'
            rw [hr'.1, hr'.2.1, hr'.2.2.2.2]
            rw [hr'.2.2.1] at h1
            rw [hr'.2.2.2.1] at h2
            obtain ⟨tva2, tvc2, rfl⟩ := owns_form h1
            obtain ⟨ava2, avc2, rfl⟩ := owns_form h2
            rw [← HL.out, ← HAn.out]
            have HW8 : Hid ((AlX o Z rb R2 R1.tasks.length (.slice ma ln mc) l (.slice ba bn bc) bl o2 v2 wr ob st (.slice tva L tvc) tl W8 ∧ PairsV W8 W8.heap.size (.slice ava an avc) al) ∧ W8.ownsRow 0 3 1 (.slice tva2 L tvc2) tl.length (tl.map (Value.int .i64)) ∧ PairsV W8 W8.heap.size (.slice ava2 an avc2) al) := ⟨⟨HW7.out.1.below hb8, PairsV.wide (HW7.out.2.below hb8 (Nat.le_refl _)) hb8.size⟩, by rw [HL.out]; exact owns_base h1 (Nat.zero_le _), by rw [HAn.out]; exact pairsV_own h2 (by rw [← hr'.2.2.2.1]; have := runMap_len l bl fu; omega)⟩
            obtain ⟨b0, b1, b2, _, bl8⟩ := out_box HW8.out.1.1.box
            clear h1 h2 hb8 HW7 hr'
            go_wp2_with fail
            refine name_calls (p := fun V => (AlX o Z rb R2 R1.tasks.length (.slice ma ln mc) l (.slice ba bn bc) bl o2 v2 wr ob st (.slice tva L tvc) tl V ∧ PairsV V V.heap.size (.slice ava an avc) al) ∧ V.ownsRow 0 3 1 (.slice tva2 L tvc2) tl.length (tl.map (Value.int .i64)) ∧ PairsV V V.heap.size (.slice ava2 an avc2) al) ?_ ?_
            · have hba : Below W8.heap.size W8 (W8.alloc (.cells #[.int .i64 st, .slice tva2 L tvc2, .int .i64 1] 44)) := (Below.refl _ _).alloc (Nat.le_refl _) _
              exact ⟨⟨HW8.out.1.1.below hba, PairsV.wide (HW8.out.1.2.below hba (Nat.le_refl _)) hba.size⟩, owns_keep HW8.out.2.1 hba, PairsV.wide (HW8.out.2.2.below hba (Nat.le_refl _)) hba.size⟩
            clear HW8 b0 b1 b2 bl8
            rintro V hV
            refine (pivotkeep_sameOutcome_any st 1 st 1 _ _ tl tl V (intsV_own hV.1.1.told (by have := HTl.out; omega)) (intsV_own hV.2.1 (by have := HTl.out; omega))).mono ?_
            rintro e V2 ⟨rfl, hb⟩
            simp only [decide_true, Bool.and_self]
            have HV2 : Hid ((AlX o Z rb R2 R1.tasks.length (.slice ma ln mc) l (.slice ba bn bc) bl o2 v2 wr ob st (.slice tva L tvc) tl V2 ∧ PairsV V2 V2.heap.size (.slice ava an avc) al) ∧ PairsV V2 V2.heap.size (.slice ava2 an avc2) al) := ⟨⟨hV.1.1.below hb, PairsV.wide (hV.1.2.below hb (Nat.le_refl _)) hb.size⟩, PairsV.wide (hV.2.2.below hb (Nat.le_refl _)) hb.size⟩
            clear hV hb
            go_wp2_with fail
            refine (pivotkeep_samePairs_any _ _ _ _ al al V2 HV2.out.1.2 HV2.out.2).mono ?_
            rintro e V3 ⟨rfl, hb⟩
            simp only [decide_true]
            have HV3 : Hid (AlX o Z rb R2 R1.tasks.length (.slice ma ln mc) l (.slice ba bn bc) bl o2 v2 wr ob st (.slice tva L tvc) tl V3) := HV2.out.1.1.below hb
            have c8 : V3.cell? ⟨rb, 8, none⟩ = some (.bool true) := HV3.out.z.now.kp.cell 8
            obtain ⟨b0, b1, b2, _, bl8⟩ := out_box HV3.out.box
            have hO := open_n HV3.out.z.now.kp HA.out.2.1.ok hN9
            have hz0 : openN R2.d = 0 := Nat.le_zero.1 (Nat.le_of_not_lt fun h => by obtain ⟨m, hm, hs⟩ := open_pos h; have := HOv.out m hm; omega)
            rw [hz0] at hO
            clear hb HV2 hz0
            go_wp2_with fail
            refine hO.mono ?_
            clear hO c8 b0 b1 b2 bl8
            rintro e V4 ⟨rfl, r5, hV4⟩
            have HV4 : Hid (AlX o Z rb R2 R1.tasks.length (.slice ma ln mc) l (.slice ba bn bc) bl o2 v2 wr ob st (.slice tva L tvc) tl V4) := by
              show AlX o Z rb R2 R1.tasks.length (.slice ma ln mc) l (.slice ba bn bc) bl o2 v2 wr ob st (.slice tva L tvc) tl V4
              rw [hV4]
              exact HV3.out.below (below_drewN (Below.refl _ _) _)
            clear hV4 HV3
            obtain ⟨b0, b1, b2, _, bl8⟩ := out_box HV4.out.box
            have HE : Hid (AlI o Z rb cf (i + 1) V4) := ⟨o2, v2, R2, HV4.out.z.now, HA.out.2.1, HOv.out, by rw [HA.out.2.2.2, HR1.out.2.2.2.1], by rw [HA.out.2.2.1]; exact HR1.out.2.2.2.2⟩
            go_wp2
            go_roundw
            case rel => exact ⟨i + 1, by omega, by go_num, HE.out⟩
            case measure => simp [intOf]; omega
          · have m0 : (0 : Int) < ((fu + 2 - q : Nat) : Int) := by omega
            have m0n : 0 < fu + 2 - q := by omega
            have hO := open_n HA0.out.1.1.now.kp HA0.out.1.2.1.ok hN9
            by_cases hz : openN R2.d = 0
            · have HAe : Hid (Ae R2.d (i + 1 + 1) l R1.d.goods ∧ R2.d.c = R1.d.c) := by
                refine ⟨?_, HA0.out.1.2.2.1⟩
                have := alq_open HR1.out.2.1.ok.k.inv HR1.out.2.2.1 HLj.out.1 hwl HA0.out.1.2.1.ok.k.inv HA0.out.1.2.2.1 HA0.out.2 hz
                rw [HR1.out.2.2.2.1] at this
                exact this
              rw [hz] at hO
              go_wp2_with fail
              refine hO.mono ?_
              clear hO
              rintro e W4 ⟨rfl, r4, hW4⟩
              have HA : Hid (AlZ o Z rb R2 R1.tasks.length (.slice ma ln mc) l (.slice ba bn bc) bl o2 v2 W4 ∧ KOk1 (1 + (i + 1)) R2 ∧ R2.d.c = R1.d.c ∧ R2.d.jobs.length = R1.d.jobs.length + 1) := by
                rw [HBl.out, hW4]
                exact ⟨HA0.out.1.1.below (below_drewN (Below.refl _ _) _), HA0.out.1.2⟩
              clear hW4
              have hNx := HAe.out
              have c0 : W4.cell? ⟨rb, 0, none⟩ = some (.pointer (some ⟨R2.xb, 0, none⟩)) := HA.out.1.now.kp.cell 0
              have hP := kitP.poll (fun k => o2 k = some 4) W4 R2.xb R2.d ((i : Int) + 2) (HA.out.1.now.kp.desk nX) (by rw [HA.out.2.2.2, HR1.out.2.2.2.1]; omega) (told_le HA.out.2.1.ok.k.inv)
              have hpe := poll_yes (d := R2.d) (i := i + 1) (by rw [HA.out.2.2.2, HR1.out.2.2.2.1]; omega)
              rw [show ((i + 1 : Nat) : Int) + 1 = (i : Int) + 2 by omega] at hpe
              have e0 : R2.d.jobs.getD (i + 1) jobM0 = R2.d.job (i + 1 + 1) := rfl
              rw [e0, hNx.1.tries] at hpe
              have HTl : Hid ((R2.d.job (i + 1 + 1)).told.length ≤ 1000) := told_le HA.out.2.1.ok.k.inv (i + 1) (by rw [HA.out.2.2.2, HR1.out.2.2.2.1]; omega)
              have HRn : Hid (runErr l bl cf.fuel = 0 ∧ runSt l bl cf.fuel = (R2.d.job (i + 1 + 1)).state ∧ runTold l bl cf.fuel = (R2.d.job (i + 1 + 1)).told ∧ runMap l bl cf.fuel = listOf (mapF R2.d.goods) ∧ runTries l bl cf.fuel = 1) := by
                rw [HBl.out, ← HR1.out.2.2.2.2]
                have h1 := ae_run HR1.out.2.1.ok.k.inv HLj.out.1 hNx.1 hNx.2
                exact ⟨h1.1, h1.2.1, h1.2.2.1, h1.2.2.2, by unfold runTries; rw [if_pos h1.1]⟩
              have HOv : Hid (∀ m, R2.d.Has m → 2 < (R2.d.job m).state) := hNx.1.over
              have hwi2 : IntKind.i64.wrap ((i : Int) + 2) = (i : Int) + 2 := by rw [IntKind.wrap_i64]; omega
              obtain ⟨st, hst⟩ : ∃ st, st = (R2.d.job (i + 1 + 1)).state := ⟨_, rfl⟩
              obtain ⟨tl, htl⟩ : ∃ tl, tl = (R2.d.job (i + 1 + 1)).told := ⟨_, rfl⟩
              rw [← hst, ← htl] at hpe HRn
              rw [← htl] at HTl
              obtain ⟨al, hal⟩ : ∃ al, al = listOf (mapF R2.d.goods) := ⟨_, rfl⟩
              have HMp : Hid (∀ W, Below W4.heap.size W4 W → Calls Try.prog 33 #[.pointer (some ⟨R2.xb, 0, none⟩)] W fun e w' => ∃ v, e = .returned v ∧ w'.ownsRow W.heap.size 42 2 v al.length (prCells al) ∧ Below W.heap.size W w') := fun W hW => by
                rw [hal]
                exact kitP.map (fun k => o2 k = some 4) W R2.xb R2.d ((HA.out.1.now.kp.below hW).desk nX)
              rw [← hal] at HRn
              unfold ptrV at hP
              clear hNx hst htl hal e0 HAe
              have HX0 : Hid (AlZ o Z rb R2 R1.tasks.length (.slice ma ln mc) l (.slice ba bn bc) bl o2 v2 W4) := HA.out.1
              go_wp2_with fail
              refine hP.mono ?_
              clear hP c0
              rintro e W5 ⟨tv, rfl, hrow, hb5⟩
              rw [hpe] at hrow ⊢
              simp only at hrow ⊢
              obtain ⟨tva, tvc, rfl⟩ := owns_form hrow
              obtain ⟨L, hL⟩ : ∃ L, L = tl.length := ⟨_, rfl⟩
              have HL : Hid (L = tl.length) := hL
              have HX5 : Hid (AlX o Z rb R2 R1.tasks.length (.slice ma ln mc) l (.slice ba bn bc) bl o2 v2 W4 W5.heap.size st (.slice tva L tvc) tl (W5.alloc (.cells #[.int .i64 st, .slice tva L tvc, .int .i64 1] 44))) := by
                have hba : Below W4.heap.size W4 (W5.alloc (.cells #[.int .i64 st, .slice tva L tvc, .int .i64 1] 44)) := hb5.trans ((Below.refl _ _).alloc hb5.size _)
                refine ⟨HX0.out.below hba, heap_alloc_new _ _, ?_, hba⟩
                rw [hL]
                exact owns_keep (owns_base hrow (Nat.zero_le _)) ((Below.refl _ _).alloc (Nat.le_refl _) _)
              have c0 : W5.cell? ⟨rb, 0, none⟩ = some (.pointer (some ⟨R2.xb, 0, none⟩)) := (HX0.out.below hb5).now.kp.cell 0
              rw [← hL]
              have hrl : rb < W5.heap.size := (HX0.out.below hb5).now.kp.lt
              clear hrow hb5 hL hpe HX0
              go_wp2_with fail
              refine name_calls (p := fun X => AlX o Z rb R2 R1.tasks.length (.slice ma ln mc) l (.slice ba bn bc) bl o2 v2 W4 W5.heap.size st (.slice tva L tvc) tl X) HX5.out ?_
              clear HX5 c0 hrl
              rintro X hX
              generalize W5.heap.size = ob at hX ⊢
              clear W5
              refine (HMp.out X hX.bel).mono ?_
              clear HMp
              rintro e W7 ⟨av, rfl, harow, hb7⟩
              obtain ⟨ava, avc, rfl⟩ := owns_form harow
              obtain ⟨an, han⟩ : ∃ an, an = al.length := ⟨_, rfl⟩
              have HAn : Hid (an = al.length) := han
              rw [← han]
              have HW7 : Hid (AlX o Z rb R2 R1.tasks.length (.slice ma ln mc) l (.slice ba bn bc) bl o2 v2 W4 ob st (.slice tva L tvc) tl W7 ∧ PairsV W7 W7.heap.size (.slice ava an avc) al) := ⟨hX.below hb7, by rw [han]; exact pairsV_own harow (by rw [← HRn.out.2.2.2.1]; have := runMap_len l bl cf.fuel; omega)⟩
              have c3 : W7.cell? ⟨rb, 3, none⟩ = some (.int .i64 (fu : Int)) := by
                have : W7.cell? ⟨rb, 3, none⟩ = some (.int .i64 (R2.c.fuel : Int)) := HW7.out.1.z.now.kp.cell 3
                rw [HA.out.2.1.ok.k.conf, HA.out.2.2.1, HR1.out.2.2.2.2, ← HFu.out.1] at this
                exact this
              clear harow hb7 hX han
              go_wp2_with fail
              have hRun := run_ok (.slice ma ln mc) (.slice ba bn bc) l bl cf.fuel W7 (stepsV_own HW7.out.1.z.st.1) (pairsV_own HW7.out.1.z.bef (by rw [HBl.out]; have := listOf_len (mapF R1.d.goods); omega))
              rw [← HFu.out.1] at hRun
              refine hRun.mono ?_
              clear hRun c3
              rintro e W8 ⟨tv2, av2, rfl, h1, h2, hb8⟩
              have hr' := HRn.out
              rw [← HFu.out.1] at hr'
              rw [hr'.1, hr'.2.1, hr'.2.2.2.2]
              rw [hr'.2.2.1] at h1
              rw [hr'.2.2.2.1] at h2
              obtain ⟨tva2, tvc2, rfl⟩ := owns_form h1
              obtain ⟨ava2, avc2, rfl⟩ := owns_form h2
              rw [← HL.out, ← HAn.out]
              have HW8 : Hid ((AlX o Z rb R2 R1.tasks.length (.slice ma ln mc) l (.slice ba bn bc) bl o2 v2 W4 ob st (.slice tva L tvc) tl W8 ∧ PairsV W8 W8.heap.size (.slice ava an avc) al) ∧ W8.ownsRow 0 3 1 (.slice tva2 L tvc2) tl.length (tl.map (Value.int .i64)) ∧ PairsV W8 W8.heap.size (.slice ava2 an avc2) al) := ⟨⟨HW7.out.1.below hb8, PairsV.wide (HW7.out.2.below hb8 (Nat.le_refl _)) hb8.size⟩, by rw [HL.out]; exact owns_base h1 (Nat.zero_le _), by rw [HAn.out]; exact pairsV_own h2 (by rw [← hr'.2.2.2.1]; have := runMap_len l bl fu; omega)⟩
              obtain ⟨b0, b1, b2, _, bl8⟩ := out_box HW8.out.1.1.box
              clear h1 h2 hb8 HW7 hr'
              go_wp2_with fail
              refine name_calls (p := fun V => (AlX o Z rb R2 R1.tasks.length (.slice ma ln mc) l (.slice ba bn bc) bl o2 v2 W4 ob st (.slice tva L tvc) tl V ∧ PairsV V V.heap.size (.slice ava an avc) al) ∧ V.ownsRow 0 3 1 (.slice tva2 L tvc2) tl.length (tl.map (Value.int .i64)) ∧ PairsV V V.heap.size (.slice ava2 an avc2) al) ?_ ?_
              · have hba : Below W8.heap.size W8 (W8.alloc (.cells #[.int .i64 st, .slice tva2 L tvc2, .int .i64 1] 44)) := (Below.refl _ _).alloc (Nat.le_refl _) _
                exact ⟨⟨HW8.out.1.1.below hba, PairsV.wide (HW8.out.1.2.below hba (Nat.le_refl _)) hba.size⟩, owns_keep HW8.out.2.1 hba, PairsV.wide (HW8.out.2.2.below hba (Nat.le_refl _)) hba.size⟩
              clear HW8 b0 b1 b2 bl8
              rintro V hV
              refine (pivotkeep_sameOutcome_any st 1 st 1 _ _ tl tl V (intsV_own hV.1.1.told (by have := HTl.out; omega)) (intsV_own hV.2.1 (by have := HTl.out; omega))).mono ?_
              rintro e V2 ⟨rfl, hb⟩
              simp only [decide_true, Bool.and_self]
              have HV2 : Hid ((AlX o Z rb R2 R1.tasks.length (.slice ma ln mc) l (.slice ba bn bc) bl o2 v2 W4 ob st (.slice tva L tvc) tl V2 ∧ PairsV V2 V2.heap.size (.slice ava an avc) al) ∧ PairsV V2 V2.heap.size (.slice ava2 an avc2) al) := ⟨⟨hV.1.1.below hb, PairsV.wide (hV.1.2.below hb (Nat.le_refl _)) hb.size⟩, PairsV.wide (hV.2.2.below hb (Nat.le_refl _)) hb.size⟩
              clear hV hb
              go_wp2_with fail
              refine (pivotkeep_samePairs_any _ _ _ _ al al V2 HV2.out.1.2 HV2.out.2).mono ?_
              rintro e V3 ⟨rfl, hb⟩
              simp only [decide_true]
              have HV3 : Hid (AlX o Z rb R2 R1.tasks.length (.slice ma ln mc) l (.slice ba bn bc) bl o2 v2 W4 ob st (.slice tva L tvc) tl V3) := HV2.out.1.1.below hb
              have c8 : V3.cell? ⟨rb, 8, none⟩ = some (.bool true) := HV3.out.z.now.kp.cell 8
              obtain ⟨b0, b1, b2, _, bl8⟩ := out_box HV3.out.box
              have hO := open_n HV3.out.z.now.kp HA.out.2.1.ok hN9
              have hz0 : openN R2.d = 0 := Nat.le_zero.1 (Nat.le_of_not_lt fun h => by obtain ⟨m, hm, hs⟩ := open_pos h; have := HOv.out m hm; omega)
              rw [hz0] at hO
              clear hb HV2 hz0
              go_wp2_with fail
              refine hO.mono ?_
              clear hO c8 b0 b1 b2 bl8
              rintro e V4 ⟨rfl, r5, hV4⟩
              have HV4 : Hid (AlX o Z rb R2 R1.tasks.length (.slice ma ln mc) l (.slice ba bn bc) bl o2 v2 W4 ob st (.slice tva L tvc) tl V4) := by
                show AlX o Z rb R2 R1.tasks.length (.slice ma ln mc) l (.slice ba bn bc) bl o2 v2 W4 ob st (.slice tva L tvc) tl V4
                rw [hV4]
                exact HV3.out.below (below_drewN (Below.refl _ _) _)
              clear hV4 HV3
              obtain ⟨b0, b1, b2, _, bl8⟩ := out_box HV4.out.box
              have HE : Hid (AlI o Z rb cf (i + 1) V4) := ⟨o2, v2, R2, HV4.out.z.now, HA.out.2.1, HOv.out, by rw [HA.out.2.2.2, HR1.out.2.2.2.1], by rw [HA.out.2.2.1]; exact HR1.out.2.2.2.2⟩
              go_wp2
              go_roundw
              case rel => exact ⟨i + 1, by omega, by go_num, HE.out⟩
              case measure => simp [intOf]; omega
            · have m1 : (0 : Int) < (openN R2.d : Int) := by omega
              have m1n : 0 < openN R2.d := by omega
              generalize openN R2.d = op2 at hO m1 m1n hz
              go_wp2_with fail
              refine hO.mono ?_
              clear hO
              rintro e W4 ⟨rfl, r4, hW4⟩
              have HA4 : Hid (AlZ o Z rb R2 R1.tasks.length (.slice ma ln mc) l (.slice ba bn bc) (listOf (mapF R1.d.goods)) o2 v2 W4) := by
                show AlZ o Z rb R2 R1.tasks.length (.slice ma ln mc) l (.slice ba bn bc) (listOf (mapF R1.d.goods)) o2 v2 W4
                rw [hW4]
                exact HA0.out.1.1.below (below_drewN (Below.refl _ _) _)
              have hwl2 : wi < R2.d.c.workers := by rw [HA0.out.1.2.2.1]; exact hwl
              have hPk := pick_k HA4.out.now.kp HA0.out.1.2.1.ok hN9 hwl2
              have HWl : Hid (wi < R2.d.c.workers ∧ wi < R1.d.c.workers) := ⟨hwl2, hwl⟩
              unfold ptrV at hPk
              clear hW4 hwl2 hwl
              go_wp2_with fail
              refine hPk.mono ?_
              clear hPk
              rintro e W6 ⟨rfl, hst⟩
              have HN6 : Hid (AlP o Z rb i wi R1 (.slice ma ln mc) l (.slice ba bn bc) (q + 1) W6) := by
                obtain ⟨o3, v3, hz3⟩ := HA4.out.stp hst
                have hl3 := pickR_len HA0.out.1.2.1.ok HWl.out.1
                refine ⟨o3, v3, R2.pickR wi, hz3, ⟨HA0.out.1.2.1.ok.pick HWl.out.1, by rw [hl3.2]; exact HA0.out.1.2.1.one⟩, by rw [pickR_c]; exact HA0.out.1.2.2.1, by rw [hl3.1]; exact HA0.out.1.2.2.2, ?_⟩
                rw [pickR_d]
                exact alq_next HR1.out.2.1.ok.k.inv HR1.out.2.2.1 HLj.out.1 HWl.out.2 HA0.out.1.2.1.ok.k.inv HA0.out.1.2.2.1 HA0.out.2
              have hwq : IntKind.i64.wrap (((fu + 2 - q : Nat) : Int) - 1) = ((fu + 2 - (q + 1) : Nat) : Int) := by rw [IntKind.wrap_i64]; omega
              clear hst
              go_wp2
              go_roundw
              case rel => exact ⟨q + 1, by omega, by go_num, HN6.out⟩
              case measure => simp [intOf]; omega
    · obtain rfl : i = n := by omega
      have HE : Hid (Below w.heap.size w wr) := HZ.out.2.2.trans (HR1.out.1.fr.below (fun k hk => HZ.out.2.1 k hk.some) HZ.out.2.2.size)
      go_wp2
      go_ret
      exact ⟨rfl, HE.out⟩
end Go.Proofs.Ytlbmcdoldnajoaa
