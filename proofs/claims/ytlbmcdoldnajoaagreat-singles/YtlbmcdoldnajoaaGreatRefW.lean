import Derived.Test.YtlbmcdoldnajoaaGreatRefH
import Derived.Deep.RegionLaw
import Derived.Deep.DeepCutAuto
set_option maxRecDepth 100000
set_option maxHeartbeats 4000000
namespace Go.Proofs.YtlbmcdoldnajoaaGreat
open Go.RowKit
theorem refLooked_any (F : Nat → Prop) (B : Nat) (w : World) (rb : Nat) (d : DeskM) (v : RV) (i q px rr db : Nat) (pv tv : Value) (x : Mo) (pl : List (Int × Int)) (st : Int) (h : RD F w rb d v) (hm : Mom B w px rr db pv tv x pl) (hi : i < d.workers.length) (hq : (d.workers.getD i att0).ticket = q + 1) (hqN : q < d.jobs.length)
    (hbn : d.jobs.length ≤ 1000000000 ∧ d.workers.length ≤ 1000 ∧ d.goods.length ≤ 1000000000 ∧ pl.length ≤ 1000) (hbn2 : (d.workers.getD i att0).beg ≤ d.goods.length ∧ (∀ q, q < d.goods.length → (d.goods.getD q good0).beg ≤ 1000000000) ∧ d.queue.length ≤ 1000000000 ∧ d.urgent.length ≤ 1000000000 ∧ (d.jobs.getD q jobM0).failed ≤ 1000000000) (hky : KeysOK x) (hF : ∀ k, B ≤ k → F k) (hB : B ≤ w.heap.size)
    (hqb : ∀ k, v.qv.ownBlock = some k ∨ v.uv.ownBlock = some k → k < B) :
    Calls Tryz.prog 94 #[ptrV rb, natV i, ptrV px, .int .i64 st] w fun e w' => RStep F w rb (d.looked i x st).1 (noteV (d.looked i x st).2) e w' := by
  have H : Hid (RD F w rb d v) := h
  have HBn : Hid (d.jobs.length ≤ 1000000000 ∧ d.workers.length ≤ 1000 ∧ d.goods.length ≤ 1000000000 ∧ pl.length ≤ 1000) := hbn
  have HBn2 : Hid ((d.workers.getD i att0).beg ≤ d.goods.length ∧ (∀ q, q < d.goods.length → (d.goods.getD q good0).beg ≤ 1000000000) ∧ d.queue.length ≤ 1000000000 ∧ d.urgent.length ≤ 1000000000 ∧ (d.jobs.getD q jobM0).failed ≤ 1000000000) := hbn2
  have HM : Hid (Mom B w px rr db pv tv x pl) := hm
  have HI : Hid (i < d.workers.length ∧ (d.workers.getD i att0).ticket = q + 1 ∧ q < d.jobs.length) := ⟨hi, hq, hqN⟩
  have HF : Hid (∀ k, B ≤ k → F k) := hF
  have HTv : Hid (∀ k, tv.ownBlock = some k → (F k ∧ k ≠ w.heap.size) ∧ v.qv.ownBlock ≠ some k ∧ v.uv.ownBlock ≠ some k) := fun k hk => by
    have h1 := owns_ge hm.told hk
    exact ⟨⟨hF k h1, by have := (owns_lt hm.told hk).2; omega⟩, fun e => by have := hqb k (Or.inl e); omega, fun e => by have := hqb k (Or.inr e); omega⟩
  obtain ⟨wg, wcap, hwv, hwgl, hwcell⟩ := owns_pos h.work (by omega)
  have c7 : w.cell? ⟨rb, 7, none⟩ = some (.slice (some ⟨wg, 0, none⟩) d.workers.length wcap) := by rw [blk_cell h.blk, ← hwv]; rfl
  have hat : ∀ k, k < 3 → w.cell? ⟨wg, i * 3 + k, none⟩ = (attC (d.workers.getD i att0))[k]? := fun k hk => by
    rw [hwcell (i * 3 + k) (by omega)]
    exact attCells_at d.workers hi hk
  have a0 : w.cell? ⟨wg, i * 3, none⟩ = some (.int .i64 ((d.workers.getD i att0).ticket : Nat)) := (hat 0 (by decide)).trans rfl
  have a1 : w.cell? ⟨wg, i * 3 + 1, none⟩ = some (.int .i64 ((d.workers.getD i att0).beg : Nat)) := (hat 1 (by decide)).trans rfl
  have a2 : w.cell? ⟨wg, i * 3 + 2, none⟩ = some (.int .i64 ((d.workers.getD i att0).done : Nat)) := (hat 2 (by decide)).trans rfl
  have x4 : w.cell? ⟨px, 4, none⟩ = some (.slice (some ⟨db, 0, none⟩) 16 16) := by rw [blk_cell hm.blk]; rfl
  obtain ⟨pa, pcap, hpv⟩ := owns_form hm.puts
  obtain ⟨ta, tc, htv⟩ := owns_form hm.told
  obtain ⟨tn, htn⟩ : ∃ tn, tn = x.told.length := ⟨_, rfl⟩
  rw [← htn] at htv
  have HTf : Hid (tv = .slice ta tn tc) := htv
  have hrb := blk_lt h.blk
  have hpx := blk_lt hm.blk
  have mi : (i : Int) < (d.workers.length : Int) := by omega
  have hmk := make_any Tryz.underlying114 Tryz.infoBool 16 (by decide) (by decide)
  obtain ⟨mc, hmc⟩ : ∃ mc, mc = madeCells (Value.bool false).cells (16 * 1) := ⟨_, rfl⟩
  rw [← hmc] at hmk
  have hmk2 : ∀ W : World, (Instr.makeSlice 114 (.int .i64 16) (.int .i64 16)).run Tryz.prog W = .ok (.slice (some ⟨W.heap.size, 0, none⟩) 16 16) (W.alloc (.cells mc 4)) := fun W => hmk W
  have HMc : Hid (mc = madeCells #[.bool false] 16) := hmc
  clear hmk hmc htv htn
  obtain ⟨pl2, pa2, pcap2, pf, hor⟩ : ∃ (pl2 : List (Int × Int)) (pa2 : Option Addr) (pcap2 : Nat) (pf : Int → Option Int), (st = 3 ∧ pl2 = pl ∧ pa2 = pa ∧ pcap2 = pcap ∧ pf = x.puts) ∨ (¬ st = 3 ∧ pl2 = [] ∧ pa2 = none ∧ pcap2 = 0 ∧ pf = fun _ => none) := by
    by_cases h3 : st = 3
    · exact ⟨pl, pa, pcap, x.puts, Or.inl ⟨h3, rfl, rfl, rfl, rfl⟩⟩
    · exact ⟨[], none, 0, fun _ => none, Or.inr ⟨h3, rfl, rfl, rfl, rfl⟩⟩
  have HOr : Hid ((st = 3 ∧ w.cell? ⟨px, 3, none⟩ = some (.slice pa2 pl2.length pcap2)) ∨ (¬ st = 3 ∧ pl2 = [] ∧ pa2 = none ∧ pcap2 = 0)) := by
    rcases hor with ⟨h3, rfl, rfl, rfl, _⟩ | ⟨h3, e1, e2, e3, _⟩
    · exact Or.inl ⟨h3, by rw [blk_cell hm.blk, ← hpv]; rfl⟩
    · exact Or.inr ⟨h3, e1, e2, e3⟩
  have HPF : Hid ((if st = 3 then x.puts else fun _ => none) = pf) := by
    show (if st = 3 then x.puts else fun _ => none) = pf
    rcases hor with ⟨h3, _, _, _, rfl⟩ | ⟨h3, _, _, _, rfl⟩
    · rw [if_pos h3]
    · rw [if_neg h3]
  have HPl : Hid (pl2.length ≤ 1000) := by
    rcases hor with ⟨_, rfl, _⟩ | ⟨_, rfl, _⟩
    · exact hbn.2.2.2
    · exact Nat.zero_le _
  have HKy : Hid (∀ j, j < pl2.length → 0 ≤ (pl2.getD j pz).1 ∧ (pl2.getD j pz).1 ≤ 15) := fun j hj => by
    rcases hor with ⟨_, rfl, _⟩ | ⟨_, rfl, _⟩
    · exact keys_list hky hm.last hj
    · exact absurd hj (Nat.not_lt_zero _)
  have HPr : Hid (∀ j, j < pl2.length → ∃ g, pa2 = some ⟨g, 0, none⟩ ∧ g < w.heap.size ∧ w.cell? ⟨g, j * 2, none⟩ = some (.int .i64 (pl2.getD j pz).1)) := fun j hj => by
    rcases hor with ⟨_, rfl, rfl, _⟩ | ⟨_, rfl, _⟩
    · exact prs_at hm.puts hpv hj
    · exact absurd hj (Nat.not_lt_zero _)
  have HPR : Hid (w.ownsRow 0 58 2 (.slice pa2 pl2.length pcap2) pl2.length (prCells pl2)) := by
    rcases hor with ⟨_, rfl, rfl, rfl, _⟩ | ⟨_, rfl, rfl, rfl, _⟩
    · rw [← hpv]; exact owns_base hm.puts (Nat.zero_le _)
    · exact World.ownsRow_nil _ _ _ _
  have HLp : Hid (lastP pl2 = pf) := by
    rcases hor with ⟨_, rfl, _, _, rfl⟩ | ⟨_, rfl, _, _, rfl⟩
    · exact funext hm.last
    · rfl
  have HW0 : Hid (wrN pl2 pl2.length = DeskM.wroteL pf) := wrN_all (fun k => by rw [HLp.out])
  have HPf : Hid (∀ k, (Value.slice pa2 pl2.length pcap2).ownBlock = some k → F k ∧ k ≠ w.heap.size) := fun k hk => by
    rcases hor with ⟨_, rfl, rfl, rfl, _⟩ | ⟨_, _, rfl, _⟩
    · rw [← hpv] at hk
      exact ⟨hF k (owns_ge hm.puts hk), by have := (owns_lt hm.puts hk).2; omega⟩
    · cases hk
  clear hor hpv
  generalize hEtk : (d.workers.getD i att0).ticket = tk at a0
  generalize hEbg : (d.workers.getD i att0).beg = bg at a1
  generalize (d.workers.getD i att0).done = dn at a2
  have HE : Hid ((d.workers.getD i att0).ticket = tk ∧ (d.workers.getD i att0).beg = bg) := ⟨hEtk, hEbg⟩
  have HTq : Hid (tk = q + 1) := by rw [← hEtk]; exact hq
  clear hEtk hEbg
  unfold ptrV natV
  clear hbn hbn2 hky h hm hi hq hqN hF hqb hwcell hat hwv
  go_enter Tryz.func94, Tryz.ntmps94
  go_wp2
  refine name_wp (p := fun X => Below w.heap.size w X ∧ X.heap.size = w.heap.size + 2 ∧ X.heap[w.heap.size]? = some (.cells #[.int .i64 0, .int .i64 0, .int .i64 0] 122 (0, 0)) ∧ X.heap[w.heap.size + 1]? = some (.cells #[.int .i64 (tk : Int), .int .i64 (bg : Int), .int .i64 (dn : Int)] 136 (0, 0))) ⟨((Below.refl _ _).alloc (Nat.le_refl _) _).alloc (by simp) _, by simp, new0E _ _ _, new1E _ _ _⟩ ?_
  rintro X1 ⟨k1, k2, k3, k4⟩
  have HX1 : Hid (Below w.heap.size w X1 ∧ X1.heap.size = w.heap.size + 2 ∧ X1.heap[w.heap.size]? = some (.cells #[.int .i64 0, .int .i64 0, .int .i64 0] 122 (0, 0)) ∧ X1.heap[w.heap.size + 1]? = some (.cells #[.int .i64 (tk : Int), .int .i64 (bg : Int), .int .i64 (dn : Int)] 136 (0, 0))) := ⟨k1, k2, k3, k4⟩
  have b0 : X1.cell? ⟨w.heap.size + 1, 0, none⟩ = some (.int .i64 (tk : Int)) := by rw [blk_cell k4]; rfl
  have b1 : X1.cell? ⟨w.heap.size + 1, 1, none⟩ = some (.int .i64 (bg : Int)) := by rw [blk_cell k4]; rfl
  have y4 := (k1.cell (p := ⟨px, 4, none⟩) hpx).trans x4
  have hs1 : w.heap.size + 1 < X1.heap.size := by omega
  have hs2 : px < X1.heap.size := by omega
  clear k1 k2 k3 k4 a0 a1 a2 x4 c7
  obtain ⟨ab, hab⟩ : ∃ ab, ab = w.heap.size + 1 := ⟨_, rfl⟩
  have HAb : Hid (ab = w.heap.size + 1) := hab
  rw [← hab] at b0 b1 hs1 ⊢
  clear hab
  go_cut [10] (fun y wx => ∃ tb wb, y = .pointer (some ⟨tb, 0, none⟩) ∧ Below X1.heap.size X1 wx ∧ X1.heap.size ≤ tb ∧ X1.heap.size ≤ wb ∧ tb ≠ wb ∧ wx.heap[tb]? = some (.cells #[.int .i64 (tk : Int), .int .i64 (bg : Int), .slice (some ⟨db, 0, none⟩) 16 16, .slice (some ⟨wb, 0, none⟩) 16 16, .slice none 0 0] 156 (0, 0)) ∧ wx.heap[wb]? = some (.cells mc 4 (0, 0)))
  case first =>
    go_region
    · go_wp2_with fail
      go_meet
      exact ⟨X1.heap.size + 1, X1.heap.size, rfl, (((Below.refl _ _).alloc (Nat.le_refl _) _).alloc (by simp) _).drew, by omega, by omega, by omega, new1E _ _ _, new0E _ _ _⟩
    · go_wp2_with fail
      go_meet
      exact ⟨X1.heap.size, X1.heap.size + 1, rfl, (((Below.refl _ _).alloc (Nat.le_refl _) _).alloc (by simp) _).drew, by omega, by omega, by omega, new0E _ _ _, new1E _ _ _⟩
  case rest =>
  obtain ⟨tb, wb, rfl, hx2⟩ := hcut
  generalize wc = X2 at hx2 ⊢
  have HX2 : Hid (Below X1.heap.size X1 X2 ∧ X1.heap.size ≤ tb ∧ X1.heap.size ≤ wb ∧ tb ≠ wb ∧ X2.heap[tb]? = some (.cells #[.int .i64 (tk : Int), .int .i64 (bg : Int), .slice (some ⟨db, 0, none⟩) 16 16, .slice (some ⟨wb, 0, none⟩) 16 16, .slice none 0 0] 156 (0, 0)) ∧ X2.heap[wb]? = some (.cells mc 4 (0, 0))) := hx2
  clear hx2
  have HK : Hid (LookX w X2 tb wb ab tk bg dn db (.slice none 0 0) (wrN pl2 0)) := ⟨HX1.out.1.trans (HX2.out.1.mono (by have := HX1.out.2.1; omega)), by have := HX1.out.2.1; have := HX2.out.2.1; omega, by have := HX1.out.2.1; have := HX2.out.2.2.1; omega, HX2.out.2.2.2.1, HAb.out, HX2.out.2.2.2.2.1, HX2.out.2.2.2.2.2.trans (by rw [HMc.out, made_bools, wrN_zero]), (HX2.out.1.block _ (by have := HX1.out.2.1; have := HAb.out; omega)).trans (by rw [HAb.out]; exact HX1.out.2.2.2), (HX2.out.1.block _ (by have := HX1.out.2.1; omega)).trans HX1.out.2.2.1⟩
  clear b0 b1 y4 hs1 hmk2
  go_upto_if 32 with fail
  go_cut [10] (fun y wx => y = .pointer (some ⟨tb, 0, none⟩) ∧ LookX w wx tb wb ab tk bg dn db (.slice pa2 pl2.length pcap2) (wrN pl2 0))
  case first =>
    rcases HOr.out with ⟨h3, x3⟩ | ⟨h3, r1, r2, r3⟩
    · subst h3
      have y3 : X2.cell? ⟨px, 3, none⟩ = some (.slice pa2 pl2.length pcap2) := (HX2.out.1.cell (p := ⟨px, 3, none⟩) hs2).trans ((HX1.out.1.cell (p := ⟨px, 3, none⟩) hpx).trans x3)
      have hs3 : tb < X2.heap.size := blk_lt HX2.out.2.2.2.2.1
      have t4 : X2.cell? ⟨tb, 4, none⟩ = some (.slice none 0 0) := by rw [blk_cell HX2.out.2.2.2.2.1]; rfl
      have f4 : X2.frozen? ⟨tb, 4, none⟩ = false := blk_free HX2.out.2.2.2.2.1
      clear x3
      go_wp2_with fail
      go_meet
      exact ⟨rfl, HK.out.puts _⟩
    · have HZ : Hid (LookX w X2 tb wb ab tk bg dn db (.slice pa2 pl2.length pcap2) (wrN pl2 0)) := by
        have h := HK.out
        rw [r1] at h
        rw [r1, r2, r3]
        exact h
      clear r1 r2 r3
      go_wp2_with fail
      go_meet
      exact ⟨rfl, HZ.out⟩
  case rest =>
  obtain ⟨rfl, hk3⟩ := hcut
  have HK3 : Hid (LookX w wc tb wb ab tk bg dn db (.slice pa2 pl2.length pcap2) (wrN pl2 0)) := hk3
  clear hk3 hs2
  go_wp2
  obtain ⟨n, hn⟩ : ∃ n, n = pl2.length := ⟨_, rfl⟩
  have HN : Hid (n = pl2.length) := hn
  have hn1 : n ≤ 1000 := by rw [hn]; exact HPl.out
  rw [← hn] at HK3
  clear hn
  go_loopw [11] (fun kk wr => ∃ j : Nat, j ≤ n ∧ kk = .int .i64 j ∧ LookX w wr tb wb ab tk bg dn db (.slice pa2 n pcap2) (wrN pl2 j)) (fun kk _ => n - (intOf kk).toNat)
  case atStart => exact ⟨0, Nat.zero_le _, rfl, HK3.out⟩
  case round =>
    obtain ⟨j, hj, rfl, hL⟩ := hrel
    have HL : Hid (LookX w wr tb wb ab tk bg dn db (.slice pa2 n pcap2) (wrN pl2 j)) := hL
    have c4 : wr.cell? ⟨tb, 4, none⟩ = some (.slice pa2 n pcap2) := by rw [blk_cell hL.tB]; rfl
    clear hL
    by_cases hlt : j < n
    · obtain ⟨g, rfl, hgw, hpk⟩ := HPr.out j (by have := HN.out; omega)
      obtain ⟨q, hq, hq15⟩ : ∃ q : Nat, (pl2.getD j pz).1 = q ∧ q ≤ 15 := ⟨((pl2.getD j pz).1).toNat, by have := HKy.out j (by have := HN.out; omega); omega⟩
      have HQ : Hid ((pl2.getD j pz).1 = q) := hq
      rw [hq] at hpk
      have c3 : wr.cell? ⟨tb, 3, none⟩ = some (.slice (some ⟨wb, 0, none⟩) 16 16) := by rw [blk_cell HL.out.tB]; rfl
      have cp : wr.cell? ⟨g, j * 2, none⟩ = some (.int .i64 (q : Int)) := (HL.out.bel.cell (p := ⟨g, j * 2, none⟩) hgw).trans hpk
      have cw : wr.cell? ⟨wb, q, none⟩ = some (.bool ((wrN pl2 j).getD q false)) := by rw [blk_cell HL.out.wB]; exact bv_get _ _ (by rw [wrN_len]; omega)
      have fw : wr.frozen? ⟨wb, q, none⟩ = false := blk_free HL.out.wB
      have m1 : (0 : Int) ≤ (j : Int) := by omega
      have m2 : (j : Int) < (n : Int) := by omega
      have m3 : (0 : Int) ≤ (q : Int) := by omega
      have m4 : (q : Int) < 16 := by omega
      have hw1 : IntKind.i64.wrap ((j : Int) + 1) = (j : Int) + 1 := by rw [IntKind.wrap_i64]; omega
      clear hq hpk
      go_wp2
      go_region
      go_wp2
      exact ⟨⟨j + 1, by omega, by simp, by rw [wrN_succ (by have := HN.out; omega) HQ.out]; exact (HL.out.mark q).drew⟩, by simp only [intOf]; omega⟩
    · have m2 : ¬ (j : Int) < (n : Int) := by omega
      have hjn : j = n := by omega
      subst hjn
      have R3 : RD F wr rb d v := H.out.below HL.out.bel
      obtain ⟨wg2, wcap2, hwv, hwgl, hwcell⟩ := owns_pos R3.work (by have := HI.out.1; omega)
      have e7 : wr.cell? ⟨rb, 7, none⟩ = some (.slice (some ⟨wg2, 0, none⟩) d.workers.length wcap2) := by rw [blk_cell R3.blk, ← hwv]; rfl
      have hat : ∀ k, k < 3 → wr.cell? ⟨wg2, i * 3 + k, none⟩ = (attC (d.workers.getD i att0))[k]? := fun k hk => by
        rw [hwcell (i * 3 + k) (by have := HI.out.1; omega)]
        exact attCells_at d.workers HI.out.1 hk
      have a0 : wr.cell? ⟨wg2, i * 3, none⟩ = some (.int .i64 ((d.workers.getD i att0).ticket : Nat)) := (hat 0 (by decide)).trans rfl
      have a1 : wr.cell? ⟨wg2, i * 3 + 1, none⟩ = some (.int .i64 ((d.workers.getD i att0).beg : Nat)) := (hat 1 (by decide)).trans rfl
      have a2 : wr.cell? ⟨wg2, i * 3 + 2, none⟩ = some (.int .i64 ((d.workers.getD i att0).done : Nat)) := (hat 2 (by decide)).trans rfl
      have hWow : wr.ownsRow 0 136 3 (.slice (some ⟨wg2, 0, none⟩) d.workers.length wcap2) d.workers.length (attCells d.workers) := by rw [← hwv]; exact R3.work
      have wf : ∀ z, wr.frozen? ⟨wg2, z, none⟩ = false := fun z => hWow.frozenAt z
      have HY : Hid (LookY F w _ rb px (momCells x rr db pv tv) tb wb ab tk bg dn db (.slice pa2 j pcap2) tv (wrN pl2 j) pl2 x { d with workers := d.workers.set i att0 } v) := HL.out.idle H.out HM.out (by have := HPR.out; rw [← HN.out] at this ⊢; exact this) HI.out.1 hwv
      clear hwcell hat hWow hwv R3
      go_wp2_with fail
      refine name_wp (p := fun X => LookY F w X rb px (momCells x rr db pv tv) tb wb ab tk bg dn db (.slice pa2 j pcap2) tv (wrN pl2 j) pl2 x { d with workers := d.workers.set i att0 } v) HY.out ?_
      intro X5 k5
      have HK5 : Hid (LookY F w X5 rb px (momCells x rr db pv tv) tb wb ab tk bg dn db (.slice pa2 j pcap2) tv (wrN pl2 j) pl2 x { d with workers := d.workers.set i att0 } v) := k5
      have a0' : X5.cell? ⟨ab, 0, none⟩ = some (.int .i64 (tk : Int)) := by rw [blk_cell k5.aB]; rfl
      clear HY e7 a0 a1 a2 wf k5
      obtain ⟨jg, jcap, hjv, _, hjc⟩ := owns_pos HK5.out.rd.jobs (by have := HI.out.2.2; show 0 < d.jobs.length; omega)
      have hjv : v.jv = .slice (some ⟨jg, 0, none⟩) d.jobs.length jcap := hjv
      have e4 : X5.cell? ⟨rb, 4, none⟩ = some (.slice (some ⟨jg, 0, none⟩) d.jobs.length jcap) := by rw [blk_cell HK5.out.rd.blk, ← hjv]; rfl
      have cj : X5.cell? ⟨jg, q, none⟩ = some (ptrV (v.js.getD q 0)) := (hjc q (by show q < d.jobs.length * 1; have := HI.out.2.2; omega)).trans (HK5.out.rd.jsGet (show q < d.jobs.length from HI.out.2.2))
      have hwt : IntKind.i64.wrap ((tk : Int) - 1) = (q : Int) := by rw [IntKind.wrap_i64]; have := HI.out.2.1; have := HE.out.1; have := HI.out.2.2; have := HBn.out.1; omega
      have mq : (q : Int) < (d.jobs.length : Int) := by have := HI.out.2.2; omega
      have mq0 : (0 : Int) ≤ (q : Int) := by omega
      obtain ⟨jb, hjb⟩ : ∃ jb, jb = v.js.getD q 0 := ⟨_, rfl⟩
      have HJb : Hid (jb = v.js.getD q 0) := hjb
      rw [← hjb] at cj
      unfold ptrV at cj
      have T0 : X5.cell? ⟨tb, 0, none⟩ = some (.int .i64 (tk : Int)) := by rw [blk_cell HK5.out.tB]; rfl
      have T1 : X5.cell? ⟨tb, 1, none⟩ = some (.int .i64 (bg : Int)) := by rw [blk_cell HK5.out.tB]; rfl
      have T2 : X5.cell? ⟨tb, 2, none⟩ = some (.slice (some ⟨db, 0, none⟩) 16 16) := by rw [blk_cell HK5.out.tB]; rfl
      have T3 : X5.cell? ⟨tb, 3, none⟩ = some (.slice (some ⟨wb, 0, none⟩) 16 16) := by rw [blk_cell HK5.out.tB]; rfl
      have T4 : X5.cell? ⟨tb, 4, none⟩ = some (.slice pa2 j pcap2) := by rw [blk_cell HK5.out.tB]; rfl
      clear hjb hjv hjc hwgl
      go_region
      go_wp2_with fail
      clear T0 T1 T2 T3 T4 a0' cj e4 hwt mq mq0
      refine name_calls (p := fun X => LookY F w X rb px (momCells x rr db pv tv) tb wb ab tk bg dn db (.slice pa2 j pcap2) tv (wrN pl2 j) pl2 x { d with workers := d.workers.set i att0 } v) (HK5.out.below (Below.refl _ _).drew) ?_
      intro X6 k6
      have HK6 : Hid (LookY F w X6 rb px (momCells x rr db pv tv) tb wb ab tk bg dn db (.slice pa2 j pcap2) tv (wrN pl2 j) pl2 x { d with workers := d.workers.set i att0 } v) := k6
      clear k6
      have HWr : Hid (wrN pl2 j = DeskM.wroteL pf) := by have := HW0.out; rw [← HN.out] at this; exact this
      have hca := refClash_any _ X6 rb _ v (GoodM.mk tk bg x.read pf) (.slice (some ⟨db, 0, none⟩) 16 16) (.slice (some ⟨wb, 0, none⟩) 16 16) (.slice pa2 j pcap2) HK6.out.rd HBn.out.2.2.1 (by show bg ≤ d.goods.length; have := HBn2.out.1; have := HE.out.2; omega) (by show BoolsV X6 _ (DeskM.wroteL pf); rw [← HWr.out]; exact bools_of_blk HK6.out.wB (wrN_len _ _))
      unfold ptrV lookV natV at hca
      refine hca.mono ?_
      clear hca
      rintro e X7 ⟨rfl, hb7⟩
      have HK7 : Hid (LookY F w X7 rb px (momCells x rr db pv tv) tb wb ab tk bg dn db (.slice pa2 j pcap2) tv (wrN pl2 j) pl2 x { d with workers := d.workers.set i att0 } v) := HK6.out.below hb7
      clear hb7
      obtain ⟨P, hP⟩ : ∃ P, P = DeskM.clash (DeskM.mk d.c d.jobs d.queue d.urgent (d.workers.set i att0) d.goods) (GoodM.mk tk bg x.read pf) := ⟨_, rfl⟩
      have HP : Hid (P = DeskM.clash (DeskM.mk d.c d.jobs d.queue d.urgent (d.workers.set i att0) d.goods) (GoodM.mk tk bg x.read pf)) := hP
      rw [← hP]
      clear hP
      by_cases h0 : P = 0
      · subst h0
        have T0 : X7.cell? ⟨tb, 0, none⟩ = some (.int .i64 (tk : Int)) := by rw [blk_cell HK7.out.tB]; rfl
        have T1 : X7.cell? ⟨tb, 1, none⟩ = some (.int .i64 (bg : Int)) := by rw [blk_cell HK7.out.tB]; rfl
        have T2 : X7.cell? ⟨tb, 2, none⟩ = some (.slice (some ⟨db, 0, none⟩) 16 16) := by rw [blk_cell HK7.out.tB]; rfl
        have T3 : X7.cell? ⟨tb, 3, none⟩ = some (.slice (some ⟨wb, 0, none⟩) 16 16) := by rw [blk_cell HK7.out.tB]; rfl
        have T4 : X7.cell? ⟨tb, 4, none⟩ = some (.slice pa2 j pcap2) := by rw [blk_cell HK7.out.tB]; rfl
        go_wp2_with fail
        clear T0 T1 T2 T3 T4
        have hca := refPivot_any _ X7 rb _ v (GoodM.mk tk bg x.read pf) (.slice (some ⟨db, 0, none⟩) 16 16) (.slice (some ⟨wb, 0, none⟩) 16 16) (.slice pa2 j pcap2) HK7.out.rd HBn.out.2.2.1 (by show bg ≤ d.goods.length; have := HBn2.out.1; have := HE.out.2; omega) (by show BoolsV X7 _ x.read; exact bools_of_blk HK7.out.dB HM.out.dlen) (by show BoolsV X7 _ (DeskM.wroteL pf); rw [← HWr.out]; exact bools_of_blk HK7.out.wB (wrN_len _ _))
        unfold ptrV lookV natV at hca
        refine hca.mono ?_
        clear hca
        rintro e X8 ⟨rfl, hb8⟩
        have HK8 : Hid (LookY F w X8 rb px (momCells x rr db pv tv) tb wb ab tk bg dn db (.slice pa2 j pcap2) tv (wrN pl2 j) pl2 x { d with workers := d.workers.set i att0 } v) := HK7.out.below hb8
        clear hb8
        obtain ⟨P, hP⟩ : ∃ P, P = DeskM.pivot (DeskM.mk d.c d.jobs d.queue d.urgent (d.workers.set i att0) d.goods) (GoodM.mk tk bg x.read pf) := ⟨_, rfl⟩
        have HPp : Hid (P = DeskM.pivot (DeskM.mk d.c d.jobs d.queue d.urgent (d.workers.set i att0) d.goods) (GoodM.mk tk bg x.read pf)) := hP
        rw [← hP]
        clear hP
        by_cases h0 : P = 0
        · subst h0
          have T0 : X8.cell? ⟨tb, 0, none⟩ = some (.int .i64 (tk : Int)) := by rw [blk_cell HK8.out.tB]; rfl
          have T1 : X8.cell? ⟨tb, 1, none⟩ = some (.int .i64 (bg : Int)) := by rw [blk_cell HK8.out.tB]; rfl
          have T2 : X8.cell? ⟨tb, 2, none⟩ = some (.slice (some ⟨db, 0, none⟩) 16 16) := by rw [blk_cell HK8.out.tB]; rfl
          have T3 : X8.cell? ⟨tb, 3, none⟩ = some (.slice (some ⟨wb, 0, none⟩) 16 16) := by rw [blk_cell HK8.out.tB]; rfl
          have T4 : X8.cell? ⟨tb, 4, none⟩ = some (.slice pa2 j pcap2) := by rw [blk_cell HK8.out.tB]; rfl
          go_wp2_with fail
          clear T0 T1 T2 T3 T4
          have hca := refOuter_any _ X8 rb _ v (GoodM.mk tk bg x.read pf) (.slice (some ⟨db, 0, none⟩) 16 16) (.slice (some ⟨wb, 0, none⟩) 16 16) (.slice pa2 j pcap2) HK8.out.rd HBn.out.2.2.1 (by show bg ≤ d.goods.length; have := HBn2.out.1; have := HE.out.2; omega) HBn2.out.2.1 (by show BoolsV X8 _ x.read; exact bools_of_blk HK8.out.dB HM.out.dlen) (by show BoolsV X8 _ (DeskM.wroteL pf); rw [← HWr.out]; exact bools_of_blk HK8.out.wB (wrN_len _ _))
          unfold ptrV lookV natV at hca
          refine hca.mono ?_
          clear hca
          rintro e X9 ⟨rfl, hb9⟩
          have HK9 : Hid (LookY F w X9 rb px (momCells x rr db pv tv) tb wb ab tk bg dn db (.slice pa2 j pcap2) tv (wrN pl2 j) pl2 x { d with workers := d.workers.set i att0 } v) := HK8.out.below hb9
          clear hb9
          obtain ⟨P, hP⟩ : ∃ P, P = DeskM.outer (DeskM.mk d.c d.jobs d.queue d.urgent (d.workers.set i att0) d.goods) (GoodM.mk tk bg x.read pf) := ⟨_, rfl⟩
          have HPo : Hid (P = DeskM.outer (DeskM.mk d.c d.jobs d.queue d.urgent (d.workers.set i att0) d.goods) (GoodM.mk tk bg x.read pf)) := hP
          rw [← hP]
          clear hP
          by_cases h0 : P = 0
          · subst h0
            have T0 : X9.cell? ⟨tb, 0, none⟩ = some (.int .i64 (tk : Int)) := by rw [blk_cell HK9.out.tB]; rfl
            have T1 : X9.cell? ⟨tb, 1, none⟩ = some (.int .i64 (bg : Int)) := by rw [blk_cell HK9.out.tB]; rfl
            have T2 : X9.cell? ⟨tb, 2, none⟩ = some (.slice (some ⟨db, 0, none⟩) 16 16) := by rw [blk_cell HK9.out.tB]; rfl
            have T3 : X9.cell? ⟨tb, 3, none⟩ = some (.slice (some ⟨wb, 0, none⟩) 16 16) := by rw [blk_cell HK9.out.tB]; rfl
            have T4 : X9.cell? ⟨tb, 4, none⟩ = some (.slice pa2 j pcap2) := by rw [blk_cell HK9.out.tB]; rfl
            obtain ⟨ga, gcap, hgv⟩ := owns_form HK9.out.rd.goods
            have hgv : v.gv = .slice ga d.goods.length gcap := hgv
            have HGv : Hid (v.gv = .slice ga d.goods.length gcap) := hgv
            have g8 : X9.cell? ⟨rb, 8, none⟩ = some (.slice ga d.goods.length gcap) := by rw [blk_cell HK9.out.rd.blk, ← hgv]; rfl
            clear hgv
            have HF9 : Hid (∀ k, w.heap.size ≤ k → F k) := fun k hk => HF.out k (by omega)
            have HDb : Hid (F db ∧ db ≠ w.heap.size) := ⟨HF.out db HM.out.bdb, by have := blk_lt HM.out.read; omega⟩
            have hrb9 : rb < X9.heap.size := blk_lt HK9.out.rd.blk
            have htb9 : tb < X9.heap.size := blk_lt HK9.out.tB
            go_wp2_with fail
            go_region_law (refine step_goods (.tmp 102) (.tmp 104) (by rfl) (by rfl) HK9.out HF9.out HBn.out.2.2.1 HWr.out HLp.out HPl.out HM.out.dlen HDb.out (by rw [HN.out]; exact HPf.out) (by rw [HGv.out]; rfl) (by rfl) ?_; intro g cap w1 k3 k4 hput)
            all_goals
              refine name_then (p := fun X => LookZ F w X rb px (momCells x rr db pv tv) ab tk bg dn tv x (DeskM.mk d.c d.jobs d.queue d.urgent (d.workers.set i att0) (d.goods ++ [⟨tk, bg, x.read, pf⟩])) { v with gv := .slice (some ⟨g, 0, none⟩) (d.goods.length + 1) cap, gs := v.gs ++ [⟨.slice (some ⟨db, 0, none⟩) 16 16, .slice (some ⟨wb, 0, none⟩) 16 16, .slice pa2 j pcap2, pl2⟩] }) hput ?_
              intro X10 hZ
              clear hput k3 k4 T0 T1 T2 T3 T4 g8 hrb9 htb9
              obtain ⟨hjF, hjk⟩ := hZ.rd.jb q HI.out.2.2
              have hjk : X10.heap[v.js.getD q 0]? = some (.cells (jobC (d.jobs.getD q jobM0) (v.sv.getD q nilV) (v.tv.getD q nilV)) 133 (0, 0)) := hjk
              have hjF : v.js.getD q 0 ≠ w.heap.size := hjF.2
              obtain ⟨v', hr', hf', hn'⟩ := hZ.ended (q := q) HI.out.2.2 HTv.out st
              have hr' : RD (fun k => F k ∧ k ≠ w.heap.size) ((X10.setCell ⟨v.js.getD q 0, 1, none⟩ (.int .i64 st)).setCell ⟨v.js.getD q 0, 2, none⟩ tv) rb (DeskM.mk d.c (d.jobs.set q { d.jobs.getD q jobM0 with state := st, told := x.told }) d.queue d.urgent (d.workers.set i att0) (d.goods ++ [⟨tk, bg, x.read, pf⟩])) v' := hr'
              have hf' : Fr F w ((X10.setCell ⟨v.js.getD q 0, 1, none⟩ (.int .i64 st)).setCell ⟨v.js.getD q 0, 2, none⟩ tv) := hf'
              rw [← HJb.out] at hjk hjF hr' hf'
              rw [HTf.out] at hr' hf'
              have HEnd : Hid (RD (fun k => F k ∧ k ≠ w.heap.size) ((X10.setCell ⟨jb, 1, none⟩ (.int .i64 st)).setCell ⟨jb, 2, none⟩ (.slice ta tn tc)) rb (DeskM.mk d.c (d.jobs.set q { d.jobs.getD q jobM0 with state := st, told := x.told }) d.queue d.urgent (d.workers.set i att0) (d.goods ++ [⟨tk, bg, x.read, pf⟩])) v' ∧ Fr F w ((X10.setCell ⟨jb, 1, none⟩ (.int .i64 st)).setCell ⟨jb, 2, none⟩ (.slice ta tn tc))) := ⟨hr', hf'⟩
              have HLk : Hid (d.looked i x st = (DeskM.mk d.c (d.jobs.set q { d.jobs.getD q jobM0 with state := st, told := x.told }) d.queue d.urgent (d.workers.set i att0) (d.goods ++ [⟨tk, bg, x.read, pf⟩]), 3, tk, 0)) := looked_good HPF.out HE.out HTq.out (by unfold DeskM.partner; rw [← HP.out, if_neg (by decide), ← HPp.out, if_neg (by decide)]; exact HPo.out)
              obtain ⟨js, hjs⟩ : ∃ js, js = (d.jobs.getD q jobM0).state := ⟨_, rfl⟩
              obtain ⟨jt, hjt⟩ : ∃ jt, jt = v.tv.getD q nilV := ⟨_, rfl⟩
              have j1 : X10.cell? ⟨jb, 1, none⟩ = some (.int .i64 js) := by rw [blk_cell hjk, hjs]; rfl
              have j2 : X10.cell? ⟨jb, 2, none⟩ = some jt := by rw [blk_cell hjk, hjt]; rfl
              have jf : ∀ z, X10.frozen? ⟨jb, z, none⟩ = false := fun z => blk_free hjk
              have x5 : X10.cell? ⟨px, 5, none⟩ = some (.slice ta tn tc) := by rw [blk_cell hZ.mB, ← HTf.out]; rfl
              have z0 : X10.cell? ⟨ab, 0, none⟩ = some (.int .i64 (tk : Int)) := by rw [blk_cell hZ.aB]; rfl
              have o0 : X10.cell? ⟨w.heap.size, 0, none⟩ = some (.int .i64 0) := by rw [blk_cell hZ.nB]; rfl
              have o1 : X10.cell? ⟨w.heap.size, 1, none⟩ = some (.int .i64 0) := by rw [blk_cell hZ.nB]; rfl
              have o2 : X10.cell? ⟨w.heap.size, 2, none⟩ = some (.int .i64 0) := by rw [blk_cell hZ.nB]; rfl
              have of : ∀ z, X10.frozen? ⟨w.heap.size, z, none⟩ = false := fun z => blk_free hZ.nB
              have e1 : jb ≠ px := blk_ne hjk hZ.mB (by decide)
              have e2 : jb ≠ ab := blk_ne hjk hZ.aB (by decide)
              have e3 : px ≠ jb := Ne.symm e1
              have e4 : ab ≠ jb := Ne.symm e2
              have e5 : w.heap.size ≠ jb := Ne.symm hjF
              clear hZ hjk hr' hf' hn' hjs hjt
              go_wp2
              refine bodyPost_ret (v := .agg #[.int .i64 3, .int .i64 (tk : Int), .int .i64 0]) (by simp [results, Tryz.results94, go_sem, o0, o1, o2]) rfl ?_
              rw [HLk.out]
              first
                | exact (rstep_note (n0 := w.heap.size) HEnd.out.1 HEnd.out.2 (Nat.le_refl _) _ _ _).drew
                | exact rstep_note (n0 := w.heap.size) HEnd.out.1 HEnd.out.2 (Nat.le_refl _) _ _ _
          · have hpt : P = DeskM.partner (DeskM.mk d.c d.jobs d.queue d.urgent (d.workers.set i att0) d.goods) (GoodM.mk tk bg x.read pf) := by unfold DeskM.partner; rw [← HP.out, if_neg (by decide), ← HPp.out, if_neg (by decide)]; exact HPo.out
            have hp2 : P ≤ d.goods.length := by rw [hpt]; exact partner_le _ _
            have HPt : Hid (P = DeskM.partner (DeskM.mk d.c d.jobs d.queue d.urgent (d.workers.set i att0) d.goods) (GoodM.mk tk bg x.read pf)) := hpt
            obtain ⟨gg, gcap, hgv, hga⟩ := HK9.out.rd.goodsAt (show 0 < d.goods.length by omega)
            have g8 : X9.cell? ⟨rb, 8, none⟩ = some (.slice (some ⟨gg, 0, none⟩) d.goods.length gcap) := by rw [blk_cell HK9.out.rd.blk, ← hgv]; rfl
            obtain ⟨u, hu⟩ : ∃ u, P = u + 1 := ⟨P - 1, by omega⟩
            have HU : Hid (P = u + 1) := hu
            have gt : X9.cell? ⟨gg, u * 5, none⟩ = some (.int .i64 (((d.goods.getD u good0).ticket : Nat) : Int)) := hga.tick u (show u < d.goods.length by omega)
            have aa : X9.cell? ⟨ab, 0, none⟩ = some (.int .i64 (tk : Int)) := by rw [blk_cell HK9.out.aB]; rfl
            have hwp : IntKind.i64.wrap ((P : Int) - 1) = (u : Int) := by rw [IntKind.wrap_i64]; have := HBn.out.2.2.1; omega
            have mu : (u : Int) < (d.goods.length : Int) := by omega
            have mu0 : (0 : Int) ≤ (u : Int) := by omega
            have mP : (0 : Int) < (P : Int) := by omega
            have mP0 : ¬ (P : Int) = 0 := by omega
            clear hu hpt hga hgv hp2
            go_wp2_with fail
            refine wp_tail 12 (by kernel_rfl) ?_
            simp only [List.take_succ_cons, List.take_zero, List.drop_succ_cons, List.drop_zero]
            repeat still_step
            refine wpStill_nil ?_
            go_wp2_with fail
            have hfa := refFailed_any _ X9.drew rb _ v q (d.goods.getD u good0).ticket (HK9.out.below (Below.refl _ _).drew).rd HI.out.2.2 HBn.out.1 HBn2.out.2.2 (fun k hk => ⟨HF.out k (by have := HK9.out.fr.size; have hk : X9.heap.size ≤ k := hk; omega), by have := blk_lt HK9.out.nB; have hk : X9.heap.size ≤ k := hk; omega⟩)
            rw [show q + 1 = tk by have := HI.out.2.1; have := HE.out.1; omega] at hfa
            unfold ptrV natV at hfa
            refine hfa.mono ?_
            clear hfa
            rintro e W8 ⟨rfl, v8, hr8, hf8⟩
            obtain ⟨nt, hnt⟩ : ∃ nt, nt = DeskM.failedJ (DeskM.mk d.c d.jobs d.queue d.urgent (d.workers.set i att0) d.goods) tk (d.goods.getD u good0).ticket := ⟨_, rfl⟩
            have HLk : Hid (d.looked i x st = nt) := by
              show _ = _
              rw [hnt]
              exact looked_fail HPF.out HE.out HPt.out HU.out
            have hr8 : RD (fun k => F k ∧ k ≠ w.heap.size) W8 rb nt.1 v8 := by rw [hnt]; exact hr8
            have hN8 : W8.heap[w.heap.size]? = some (.cells #[.int .i64 0, .int .i64 0, .int .i64 0] 122 (0, 0)) := hf8.blk (show X9.drew.heap[w.heap.size]? = _ from HK9.out.nB) (fun h => h.2 rfl)
            have HR8 : Hid (RD (fun k => F k ∧ k ≠ w.heap.size) W8 rb nt.1 v8 ∧ Fr F w W8) := ⟨hr8, HK9.out.fr.trans ((Fr.refl (fun k => F k ∧ k ≠ w.heap.size) X9).drew.trans hf8 (fun _ _ h => h)) (fun _ _ h => h.1)⟩
            have o0 : W8.cell? ⟨w.heap.size, 0, none⟩ = some (.int .i64 0) := by rw [blk_cell hN8]; rfl
            have o1 : W8.cell? ⟨w.heap.size, 1, none⟩ = some (.int .i64 0) := by rw [blk_cell hN8]; rfl
            have o2 : W8.cell? ⟨w.heap.size, 2, none⟩ = some (.int .i64 0) := by rw [blk_cell hN8]; rfl
            have of : ∀ z, W8.frozen? ⟨w.heap.size, z, none⟩ = false := fun z => blk_free hN8
            rw [← hnt]
            obtain ⟨nd, na, nb, nc⟩ := nt
            unfold noteV natV
            clear hnt hr8 hf8 hN8 g8 gt aa hwp mu mu0 mP mP0
            go_wp2
            refine bodyPost_ret (v := .agg #[.int .i64 na, .int .i64 (nb : Int), .int .i64 (nc : Int)]) (by simp [results, Tryz.results94, go_sem, o0, o1, o2]) rfl ?_
            rw [HLk.out]
            first
              | exact (rstep_note (n0 := w.heap.size) HR8.out.1 HR8.out.2 (Nat.le_refl _) _ _ _).drew
              | exact rstep_note (n0 := w.heap.size) HR8.out.1 HR8.out.2 (Nat.le_refl _) _ _ _
        · have hpt : P = DeskM.partner (DeskM.mk d.c d.jobs d.queue d.urgent (d.workers.set i att0) d.goods) (GoodM.mk tk bg x.read pf) := by unfold DeskM.partner; rw [← HP.out, if_neg (by decide), ← HPp.out, if_pos h0]
          have hp2 : P ≤ d.goods.length := by rw [hpt]; exact partner_le _ _
          have HPt : Hid (P = DeskM.partner (DeskM.mk d.c d.jobs d.queue d.urgent (d.workers.set i att0) d.goods) (GoodM.mk tk bg x.read pf)) := hpt
          obtain ⟨gg, gcap, hgv, hga⟩ := HK8.out.rd.goodsAt (show 0 < d.goods.length by omega)
          have g8 : X8.cell? ⟨rb, 8, none⟩ = some (.slice (some ⟨gg, 0, none⟩) d.goods.length gcap) := by rw [blk_cell HK8.out.rd.blk, ← hgv]; rfl
          obtain ⟨u, hu⟩ : ∃ u, P = u + 1 := ⟨P - 1, by omega⟩
          have HU : Hid (P = u + 1) := hu
          have gt : X8.cell? ⟨gg, u * 5, none⟩ = some (.int .i64 (((d.goods.getD u good0).ticket : Nat) : Int)) := hga.tick u (show u < d.goods.length by omega)
          have aa : X8.cell? ⟨ab, 0, none⟩ = some (.int .i64 (tk : Int)) := by rw [blk_cell HK8.out.aB]; rfl
          have hwp : IntKind.i64.wrap ((P : Int) - 1) = (u : Int) := by rw [IntKind.wrap_i64]; have := HBn.out.2.2.1; omega
          have mu : (u : Int) < (d.goods.length : Int) := by omega
          have mu0 : (0 : Int) ≤ (u : Int) := by omega
          have mP : (0 : Int) < (P : Int) := by omega
          have mP0 : ¬ (P : Int) = 0 := by omega
          clear hu hpt hga hgv hp2
          go_wp2_with fail
          refine wp_tail 12 (by kernel_rfl) ?_
          simp only [List.take_succ_cons, List.take_zero, List.drop_succ_cons, List.drop_zero]
          repeat still_step
          refine wpStill_nil ?_
          go_wp2_with fail
          have hfa := refFailed_any _ X8.drew rb _ v q (d.goods.getD u good0).ticket (HK8.out.below (Below.refl _ _).drew).rd HI.out.2.2 HBn.out.1 HBn2.out.2.2 (fun k hk => ⟨HF.out k (by have := HK8.out.fr.size; have hk : X8.heap.size ≤ k := hk; omega), by have := blk_lt HK8.out.nB; have hk : X8.heap.size ≤ k := hk; omega⟩)
          rw [show q + 1 = tk by have := HI.out.2.1; have := HE.out.1; omega] at hfa
          unfold ptrV natV at hfa
          refine hfa.mono ?_
          clear hfa
          rintro e W8 ⟨rfl, v8, hr8, hf8⟩
          obtain ⟨nt, hnt⟩ : ∃ nt, nt = DeskM.failedJ (DeskM.mk d.c d.jobs d.queue d.urgent (d.workers.set i att0) d.goods) tk (d.goods.getD u good0).ticket := ⟨_, rfl⟩
          have HLk : Hid (d.looked i x st = nt) := by
            show _ = _
            rw [hnt]
            exact looked_fail HPF.out HE.out HPt.out HU.out
          have hr8 : RD (fun k => F k ∧ k ≠ w.heap.size) W8 rb nt.1 v8 := by rw [hnt]; exact hr8
          have hN8 : W8.heap[w.heap.size]? = some (.cells #[.int .i64 0, .int .i64 0, .int .i64 0] 122 (0, 0)) := hf8.blk (show X8.drew.heap[w.heap.size]? = _ from HK8.out.nB) (fun h => h.2 rfl)
          have HR8 : Hid (RD (fun k => F k ∧ k ≠ w.heap.size) W8 rb nt.1 v8 ∧ Fr F w W8) := ⟨hr8, HK8.out.fr.trans ((Fr.refl (fun k => F k ∧ k ≠ w.heap.size) X8).drew.trans hf8 (fun _ _ h => h)) (fun _ _ h => h.1)⟩
          have o0 : W8.cell? ⟨w.heap.size, 0, none⟩ = some (.int .i64 0) := by rw [blk_cell hN8]; rfl
          have o1 : W8.cell? ⟨w.heap.size, 1, none⟩ = some (.int .i64 0) := by rw [blk_cell hN8]; rfl
          have o2 : W8.cell? ⟨w.heap.size, 2, none⟩ = some (.int .i64 0) := by rw [blk_cell hN8]; rfl
          have of : ∀ z, W8.frozen? ⟨w.heap.size, z, none⟩ = false := fun z => blk_free hN8
          rw [← hnt]
          obtain ⟨nd, na, nb, nc⟩ := nt
          unfold noteV natV
          clear hnt hr8 hf8 hN8 g8 gt aa hwp mu mu0 mP mP0
          go_wp2
          refine bodyPost_ret (v := .agg #[.int .i64 na, .int .i64 (nb : Int), .int .i64 (nc : Int)]) (by simp [results, Tryz.results94, go_sem, o0, o1, o2]) rfl ?_
          rw [HLk.out]
          first
            | exact (rstep_note (n0 := w.heap.size) HR8.out.1 HR8.out.2 (Nat.le_refl _) _ _ _).drew
            | exact rstep_note (n0 := w.heap.size) HR8.out.1 HR8.out.2 (Nat.le_refl _) _ _ _
      · have hpt : P = DeskM.partner (DeskM.mk d.c d.jobs d.queue d.urgent (d.workers.set i att0) d.goods) (GoodM.mk tk bg x.read pf) := by unfold DeskM.partner; rw [← HP.out, if_pos h0]
        have hp2 : P ≤ d.goods.length := by rw [hpt]; exact partner_le _ _
        have HPt : Hid (P = DeskM.partner (DeskM.mk d.c d.jobs d.queue d.urgent (d.workers.set i att0) d.goods) (GoodM.mk tk bg x.read pf)) := hpt
        obtain ⟨gg, gcap, hgv, hga⟩ := HK7.out.rd.goodsAt (show 0 < d.goods.length by omega)
        have g8 : X7.cell? ⟨rb, 8, none⟩ = some (.slice (some ⟨gg, 0, none⟩) d.goods.length gcap) := by rw [blk_cell HK7.out.rd.blk, ← hgv]; rfl
        obtain ⟨u, hu⟩ : ∃ u, P = u + 1 := ⟨P - 1, by omega⟩
        have HU : Hid (P = u + 1) := hu
        have gt : X7.cell? ⟨gg, u * 5, none⟩ = some (.int .i64 (((d.goods.getD u good0).ticket : Nat) : Int)) := hga.tick u (show u < d.goods.length by omega)
        have aa : X7.cell? ⟨ab, 0, none⟩ = some (.int .i64 (tk : Int)) := by rw [blk_cell HK7.out.aB]; rfl
        have hwp : IntKind.i64.wrap ((P : Int) - 1) = (u : Int) := by rw [IntKind.wrap_i64]; have := HBn.out.2.2.1; omega
        have mu : (u : Int) < (d.goods.length : Int) := by omega
        have mu0 : (0 : Int) ≤ (u : Int) := by omega
        have mP : (0 : Int) < (P : Int) := by omega
        have mP0 : ¬ (P : Int) = 0 := by omega
        clear hu hpt hga hgv hp2
        go_wp2_with fail
        refine wp_tail 12 (by kernel_rfl) ?_
        simp only [List.take_succ_cons, List.take_zero, List.drop_succ_cons, List.drop_zero]
        repeat still_step
        refine wpStill_nil ?_
        go_wp2_with fail
        have hfa := refFailed_any _ X7.drew rb _ v q (d.goods.getD u good0).ticket (HK7.out.below (Below.refl _ _).drew).rd HI.out.2.2 HBn.out.1 HBn2.out.2.2 (fun k hk => ⟨HF.out k (by have := HK7.out.fr.size; have hk : X7.heap.size ≤ k := hk; omega), by have := blk_lt HK7.out.nB; have hk : X7.heap.size ≤ k := hk; omega⟩)
        rw [show q + 1 = tk by have := HI.out.2.1; have := HE.out.1; omega] at hfa
        unfold ptrV natV at hfa
        refine hfa.mono ?_
        clear hfa
        rintro e W8 ⟨rfl, v8, hr8, hf8⟩
        obtain ⟨nt, hnt⟩ : ∃ nt, nt = DeskM.failedJ (DeskM.mk d.c d.jobs d.queue d.urgent (d.workers.set i att0) d.goods) tk (d.goods.getD u good0).ticket := ⟨_, rfl⟩
        have HLk : Hid (d.looked i x st = nt) := by
          show _ = _
          rw [hnt]
          exact looked_fail HPF.out HE.out HPt.out HU.out
        have hr8 : RD (fun k => F k ∧ k ≠ w.heap.size) W8 rb nt.1 v8 := by rw [hnt]; exact hr8
        have hN8 : W8.heap[w.heap.size]? = some (.cells #[.int .i64 0, .int .i64 0, .int .i64 0] 122 (0, 0)) := hf8.blk (show X7.drew.heap[w.heap.size]? = _ from HK7.out.nB) (fun h => h.2 rfl)
        have HR8 : Hid (RD (fun k => F k ∧ k ≠ w.heap.size) W8 rb nt.1 v8 ∧ Fr F w W8) := ⟨hr8, HK7.out.fr.trans ((Fr.refl (fun k => F k ∧ k ≠ w.heap.size) X7).drew.trans hf8 (fun _ _ h => h)) (fun _ _ h => h.1)⟩
        have o0 : W8.cell? ⟨w.heap.size, 0, none⟩ = some (.int .i64 0) := by rw [blk_cell hN8]; rfl
        have o1 : W8.cell? ⟨w.heap.size, 1, none⟩ = some (.int .i64 0) := by rw [blk_cell hN8]; rfl
        have o2 : W8.cell? ⟨w.heap.size, 2, none⟩ = some (.int .i64 0) := by rw [blk_cell hN8]; rfl
        have of : ∀ z, W8.frozen? ⟨w.heap.size, z, none⟩ = false := fun z => blk_free hN8
        rw [← hnt]
        obtain ⟨nd, na, nb, nc⟩ := nt
        unfold noteV natV
        clear hnt hr8 hf8 hN8 g8 gt aa hwp mu mu0 mP mP0
        go_wp2
        refine bodyPost_ret (v := .agg #[.int .i64 na, .int .i64 (nb : Int), .int .i64 (nc : Int)]) (by simp [results, Tryz.results94, go_sem, o0, o1, o2]) rfl ?_
        rw [HLk.out]
        first
          | exact (rstep_note (n0 := w.heap.size) HR8.out.1 HR8.out.2 (Nat.le_refl _) _ _ _).drew
          | exact rstep_note (n0 := w.heap.size) HR8.out.1 HR8.out.2 (Nat.le_refl _) _ _ _
end Go.Proofs.YtlbmcdoldnajoaaGreat
