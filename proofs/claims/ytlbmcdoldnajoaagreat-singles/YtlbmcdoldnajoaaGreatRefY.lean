import Derived.Test.YtlbmcdoldnajoaaGreatRefW
import Derived.Test.YtlbmcdoldnajoaaGreatFrA
import Derived.Test.YtlbmcdoldnajoaaGreatRefT
set_option maxRecDepth 100000
set_option maxHeartbeats 1000000
namespace Go.Proofs.YtlbmcdoldnajoaaGreat
open Go.RowKit
structure GoOK (d : DeskM) (i q : Nat) : Prop where
  hi : i < d.workers.length
  hq : (d.workers.getD i att0).ticket = q + 1
  hqN : q < d.jobs.length
  job : jobB (d.jobs.getD q jobM0).steps = true
  beg : (d.workers.getD i att0).beg ≤ d.goods.length
  map : vIn (listOf (mapF (d.goods.take (d.workers.getD i att0).beg))) = mapF (d.goods.take (d.workers.getD i att0).beg)
  le : ∀ k, mapF (d.goods.take (d.workers.getD i att0).beg) k ≤ 9999
  done : (d.workers.getD i att0).done ≤ d.c.fuel
  fuel : d.c.fuel ≤ 200
  n1 : d.jobs.length ≤ 1000000000 ∧ d.workers.length ≤ 1000 ∧ d.goods.length ≤ 1000000000
  n2 : (∀ q, q < d.goods.length → (d.goods.getD q good0).beg ≤ 1000000000) ∧ d.queue.length ≤ 1000000000 ∧ d.urgent.length ≤ 1000000000 ∧ (d.jobs.getD q jobM0).failed ≤ 1000000000
theorem goes_1 {d : DeskM} {i q : Nat} (g : GoOK d i q) {x : Mo} (hx : x = play (d.jobs.getD q jobM0).steps (mapF (d.goods.take (d.workers.getD i att0).beg)) (d.workers.getD i att0).done mo0) (h : (d.jobs.getD q jobM0).steps.length ≤ x.pc) : d.goes i = d.looked i x 3 := by
  have e : d.job (d.workers.getD i att0).ticket = d.jobs.getD q jobM0 := by rw [g.hq]; rfl
  unfold DeskM.goes
  simp only [e]
  rw [← hx, if_pos h]
theorem goes_2 {d : DeskM} {i q : Nat} (g : GoOK d i q) {x : Mo} (hx : x = play (d.jobs.getD q jobM0).steps (mapF (d.goods.take (d.workers.getD i att0).beg)) (d.workers.getD i att0).done mo0) (h : ¬ (d.jobs.getD q jobM0).steps.length ≤ x.pc) (h2 : (d.workers.getD i att0).done = d.c.fuel) : d.goes i = d.looked i x 5 := by
  have e : d.job (d.workers.getD i att0).ticket = d.jobs.getD q jobM0 := by rw [g.hq]; rfl
  unfold DeskM.goes
  simp only [e]
  rw [← hx, if_neg h, if_pos h2]
theorem goes_3 {d : DeskM} {i q : Nat} (g : GoOK d i q) {x y : Mo} (hx : x = play (d.jobs.getD q jobM0).steps (mapF (d.goods.take (d.workers.getD i att0).beg)) (d.workers.getD i att0).done mo0) (h : ¬ (d.jobs.getD q jobM0).steps.length ≤ x.pc) (h2 : ¬ (d.workers.getD i att0).done = d.c.fuel)
    (hy : y = play (d.jobs.getD q jobM0).steps (mapF (d.goods.take (d.workers.getD i att0).beg)) ((d.workers.getD i att0).done + 1) mo0) (h3 : ¬ y.fin = 0) : d.goes i = d.looked i y y.fin := by
  have e : d.job (d.workers.getD i att0).ticket = d.jobs.getD q jobM0 := by rw [g.hq]; rfl
  unfold DeskM.goes
  simp only [e]
  rw [← hx, if_neg h, if_neg h2, ← hy, if_pos h3]
theorem goes_4 {d : DeskM} {i q : Nat} (g : GoOK d i q) {x y : Mo} (hx : x = play (d.jobs.getD q jobM0).steps (mapF (d.goods.take (d.workers.getD i att0).beg)) (d.workers.getD i att0).done mo0) (h : ¬ (d.jobs.getD q jobM0).steps.length ≤ x.pc) (h2 : ¬ (d.workers.getD i att0).done = d.c.fuel)
    (hy : y = play (d.jobs.getD q jobM0).steps (mapF (d.goods.take (d.workers.getD i att0).beg)) ((d.workers.getD i att0).done + 1) mo0) (h3 : y.fin = 0) : d.goes i = ({ d with workers := d.workers.set i { d.workers.getD i att0 with done := (d.workers.getD i att0).done + 1 } }, 2, q + 1, 0) := by
  have e : d.job (d.workers.getD i att0).ticket = d.jobs.getD q jobM0 := by rw [g.hq]; rfl
  unfold DeskM.goes
  simp only [e]
  rw [← hx, if_neg h, if_neg h2, ← hy, if_neg (fun c => c h3), g.hq]
structure GoX (F : Nat → Prop) (w X : World) (rb : Nat) (d : DeskM) (v : RV) (ab tk bg dn : Nat) : Prop where
  rd : RD (fun k => F k ∧ k ≠ w.heap.size) X rb d v
  bel : Below w.heap.size w X
  aB : X.heap[ab]? = some (.cells #[.int .i64 (tk : Int), .int .i64 (bg : Int), .int .i64 (dn : Int)] 136 (0, 0))
  nB : X.heap[w.heap.size]? = some (.cells #[.int .i64 0, .int .i64 0, .int .i64 0] 122 (0, 0))
  hF : ∀ k, w.heap.size ≤ k → F k
  hab : w.heap.size < ab
theorem GoX.start {F : Nat → Prop} {w X : World} {rb : Nat} {d : DeskM} {v : RV} {ab tk bg dn : Nat} (h : RD F w rb d v) (hF : ∀ k, w.heap.size ≤ k → F k) (hb : Below w.heap.size w X) (hn : X.heap[w.heap.size]? = some (.cells #[.int .i64 0, .int .i64 0, .int .i64 0] 122 (0, 0))) (ha : X.heap[ab]? = some (.cells #[.int .i64 (tk : Int), .int .i64 (bg : Int), .int .i64 (dn : Int)] 136 (0, 0))) (hab : ab = w.heap.size + 1) : GoX F w X rb d v ab tk bg dn :=
  ⟨(h.mono (fun k hk e => ⟨e, by omega⟩)).below hb, hb, ha, hn, hF, by omega⟩
theorem GoX.below {F : Nat → Prop} {w X Y : World} {rb : Nat} {d : DeskM} {v : RV} {ab tk bg dn : Nat} (h : GoX F w X rb d v ab tk bg dn) (hb : Below X.heap.size X Y) : GoX F w Y rb d v ab tk bg dn :=
  ⟨h.rd.below hb, h.bel.trans (hb.mono h.bel.size), (hb.block _ (blk_lt h.aB)).trans h.aB, (hb.block _ (blk_lt h.nB)).trans h.nB, h.hF, h.hab⟩
theorem set_idem {α : Type} {l : List α} {i : Nat} {a : α} (h : l[i]? = some a) : l.set i a = l := by
  obtain ⟨hi, e⟩ := List.getElem?_eq_some_iff.1 h
  rw [← e]
  exact List.set_getElem_self hi
theorem att_done (ws : List AttM) {i : Nat} (hi : i < ws.length) (n : Nat) : (attCells ws).set (i * 3 + 2) (natV n) = attCells (ws.set i { ws.getD i att0 with done := n }) := by
  have h : (((attCells ws).set (i * 3) (natV (ws.getD i att0).ticket)).set (i * 3 + 1) (natV (ws.getD i att0).beg)).set (i * 3 + 2) (natV n) = attCells (ws.set i { ws.getD i att0 with done := n }) := attCells_set ws hi { ws.getD i att0 with done := n }
  rw [set_idem (l := attCells ws) (i := i * 3) ((attCells_at ws hi (k := 0) (by decide)).trans rfl), set_idem (l := attCells ws) (i := i * 3 + 1) ((attCells_at ws hi (k := 1) (by decide)).trans rfl)] at h
  exact h
theorem GoX.stepped {F : Nat → Prop} {w X : World} {rb : Nat} {d : DeskM} {v : RV} {ab tk bg dn : Nat} (h : GoX F w X rb d v ab tk bg dn) {i wg cap : Nat} (hi : i < d.workers.length) (hwv : v.wv = .slice (some ⟨wg, 0, none⟩) d.workers.length cap) (n : Nat) :
    RD (fun k => F k ∧ k ≠ w.heap.size) (X.setCell ⟨wg, i * 3 + 2, none⟩ (natV n)) rb { d with workers := d.workers.set i { d.workers.getD i att0 with done := n } } v ∧ Fr F w (X.setCell ⟨wg, i * 3 + 2, none⟩ (natV n)) := by
  have hww := h.rd.work
  rw [hwv] at hww
  have hown := (hww.stored (i * 3 + 2) (natV n)).1
  rw [att_done _ hi, ← hwv] at hown
  obtain ⟨b3, b4⟩ := h.rd.setW (ws := d.workers.set i { d.workers.getD i att0 with done := n }) (by simp) hown ((Fr.refl _ _).setCell (p := ⟨wg, _, none⟩) (fun _ => by rw [hwv]; rfl) _)
  exact ⟨b3, (Fr.of_below (S := F) h.bel).trans b4 (fun _ _ h => h.1)⟩
theorem refGoes_any (F : Nat → Prop) (w : World) (rb : Nat) (d : DeskM) (v : RV) (i q : Nat) (h : RD F w rb d v) (hg : GoOK d i q) (hF : ∀ k, w.heap.size ≤ k → F k) :
    Calls Tryz.prog 86 #[ptrV rb, natV i] w fun e w' => RStep F w rb (d.goes i).1 (noteV (d.goes i).2) e w' := by
  have H : Hid (RD F w rb d v) := h
  have HG : Hid (GoOK d i q) := hg
  have HF : Hid (∀ k, w.heap.size ≤ k → F k) := hF
  have hi := hg.hi
  obtain ⟨wg, wcap, hwv, hwgl, hwcell⟩ := owns_pos h.work (by omega)
  have c7 : w.cell? ⟨rb, 7, none⟩ = some (.slice (some ⟨wg, 0, none⟩) d.workers.length wcap) := by rw [blk_cell h.blk, ← hwv]; rfl
  have hat : ∀ k, k < 3 → w.cell? ⟨wg, i * 3 + k, none⟩ = (attC (d.workers.getD i att0))[k]? := fun k hk => by
    rw [hwcell (i * 3 + k) (by omega)]
    exact attCells_at d.workers hi hk
  have a0 : w.cell? ⟨wg, i * 3, none⟩ = some (.int .i64 ((d.workers.getD i att0).ticket : Nat)) := (hat 0 (by decide)).trans rfl
  have a1 : w.cell? ⟨wg, i * 3 + 1, none⟩ = some (.int .i64 ((d.workers.getD i att0).beg : Nat)) := (hat 1 (by decide)).trans rfl
  have a2 : w.cell? ⟨wg, i * 3 + 2, none⟩ = some (.int .i64 ((d.workers.getD i att0).done : Nat)) := (hat 2 (by decide)).trans rfl
  have hqN := hg.hqN
  obtain ⟨jg, jcap, hjv, hjl, hjc⟩ := owns_pos h.jobs (by omega)
  have c4 : w.cell? ⟨rb, 4, none⟩ = some (.slice (some ⟨jg, 0, none⟩) d.jobs.length jcap) := by rw [blk_cell h.blk, ← hjv]; rfl
  obtain ⟨jb, hjb⟩ : ∃ jb, jb = v.js.getD q 0 := ⟨_, rfl⟩
  have cj : w.cell? ⟨jg, q, none⟩ = some (.pointer (some ⟨jb, 0, none⟩)) := by
    rw [hjb]
    exact (hjc q (by omega)).trans (h.jsGet hqN)
  have hjk := (h.jb q hqN).2
  rw [← hjb] at hjk
  obtain ⟨sa, sc, hsv⟩ := owns_form (h.st q hqN).1
  obtain ⟨sn, hsn⟩ : ∃ sn, sn = (d.jobs.getD q jobM0).steps.length := ⟨_, rfl⟩
  rw [← hsn] at hsv
  have j0 : w.cell? ⟨jb, 0, none⟩ = some (.slice sa sn sc) := by rw [blk_cell hjk, ← hsv]; rfl
  have c2 : w.cell? ⟨rb, 2, none⟩ = some (.int .i64 (d.c.fuel : Int)) := by rw [blk_cell h.blk]; rfl
  have HSn : Hid (sn = (d.jobs.getD q jobM0).steps.length ∧ v.sv.getD q nilV = .slice sa sn sc) := ⟨hsn, hsv⟩
  have hrb := blk_lt h.blk
  have hjbl := blk_lt hjk
  have mi : (i : Int) < (d.workers.length : Int) := by omega
  have mq : (q : Int) < (d.jobs.length : Int) := by omega
  have mq0 : (0 : Int) ≤ (q : Int) := by omega
  have htq : (d.workers.getD i att0).ticket = q + 1 := hg.hq
  obtain ⟨tk, htk⟩ : ∃ tk, tk = q + 1 := ⟨_, rfl⟩
  have HTk : Hid (tk = q + 1) := htk
  rw [htq, ← htk] at a0
  have hwt : IntKind.i64.wrap ((tk : Int) - 1) = (q : Int) := by rw [IntKind.wrap_i64]; have := hg.n1; omega
  obtain ⟨bg, hbg⟩ : ∃ bg, bg = (d.workers.getD i att0).beg := ⟨_, rfl⟩
  obtain ⟨dn, hdn⟩ : ∃ dn, dn = (d.workers.getD i att0).done := ⟨_, rfl⟩
  have HAt : Hid (bg = (d.workers.getD i att0).beg ∧ dn = (d.workers.getD i att0).done) := ⟨hbg, hdn⟩
  rw [← hbg] at a1
  rw [← hdn] at a2
  unfold ptrV natV
  have HJb : Hid (jb = v.js.getD q 0) := hjb
  clear h hg hF hwcell hat hwv hjv hjc hjk hjb hsv hsn htq hbg hdn htk
  go_enter Tryz.func86, Tryz.ntmps86
  go_wp2
  refine name_wp (p := fun X => Below w.heap.size w X ∧ X.heap.size = w.heap.size + 2 ∧ X.heap[w.heap.size]? = some (.cells #[.int .i64 0, .int .i64 0, .int .i64 0] 122 (0, 0)) ∧ X.heap[w.heap.size + 1]? = some (.cells #[.int .i64 (tk : Int), .int .i64 (bg : Int), .int .i64 (dn : Int)] 136 (0, 0))) ⟨((Below.refl _ _).alloc (Nat.le_refl _) _).alloc (by simp) _, by simp, new0E _ _ _, new1E _ _ _⟩ ?_
  rintro X1 ⟨k1, k2, k3, k4⟩
  obtain ⟨ab, hab⟩ : ∃ ab, ab = w.heap.size + 1 := ⟨_, rfl⟩
  rw [← hab] at k4 ⊢
  have HX1 : Hid (GoX F w X1 rb d v ab tk bg dn) := GoX.start H.out HF.out k1 k3 k4 hab
  have b0 : X1.cell? ⟨ab, 0, none⟩ = some (.int .i64 (tk : Int)) := by rw [blk_cell k4]; rfl
  have b1 : X1.cell? ⟨ab, 1, none⟩ = some (.int .i64 (bg : Int)) := by rw [blk_cell k4]; rfl
  have b2 : X1.cell? ⟨ab, 2, none⟩ = some (.int .i64 (dn : Int)) := by rw [blk_cell k4]; rfl
  have y4 := (k1.cell (p := ⟨rb, 4, none⟩) hrb).trans c4
  have yj := (k1.cell (p := ⟨jg, q, none⟩) hjl).trans cj
  have y0 := (k1.cell (p := ⟨jb, 0, none⟩) hjbl).trans j0
  clear k1 k2 k3 k4 a0 a1 a2 c7 c4 cj j0 c2 hab
  go_region
  go_wp2_with fail
  have hMp := refMapAt_any _ X1.drew rb d v bg (HX1.out.below (Below.refl _ _).drew).rd (by rw [HAt.out.1]; exact HG.out.beg) (by have := HG.out.n1; omega)
  unfold ptrV at hMp
  refine hMp.mono ?_
  clear hMp b0 b1 b2 y4 yj y0 hwt
  rintro e W1 ⟨mv, rfl, hrow, hb1⟩
  obtain ⟨ml, hml⟩ : ∃ ml, ml = listOf (mapF (d.goods.take bg)) := ⟨_, rfl⟩
  rw [← hml] at hrow
  have HMl : Hid (ml = listOf (mapF (d.goods.take (d.workers.getD i att0).beg))) := by rw [← HAt.out.1]; exact hml
  have HW1 : Hid (GoX F w W1 rb d v ab tk bg dn ∧ PairsV W1 W1.heap.size mv ml) := ⟨(HX1.out.below (Below.refl _ _).drew).below hb1, pairsV_own hrow (by rw [hml]; have := listOf_len (mapF (d.goods.take bg)); omega)⟩
  obtain ⟨ma, mc, rfl⟩ := owns_form hrow
  obtain ⟨mn, hmn⟩ : ∃ mn, mn = ml.length := ⟨_, rfl⟩
  rw [← hmn] at HW1 ⊢
  have HPy : Hid (∀ (Y : World) (n : Nat), Below W1.heap.size W1 Y → n ≤ 200 → Calls Tryz.prog 54 #[.slice sa sn sc, .slice ma mn mc, .int .i64 (n : Int)] Y fun e w' => Played (d.jobs.getD q jobM0).steps ml n Y e w') := fun Y n hY hn => by
    have hS : StepsV Y (.slice sa sn sc) (d.jobs.getD q jobM0).steps := by
      rw [← HSn.out.2]
      exact stepsV_own ((HW1.out.1.below hY).rd.st q HG.out.hqN).1
    exact play_any _ _ _ ml n Y HG.out.job hS (PairsV.wide (HW1.out.2.below hY (Nat.le_refl _)) hY.size) (fun k => by rw [HMl.out, HG.out.map]; exact HG.out.le k) hn
  have b2 : W1.cell? ⟨ab, 2, none⟩ = some (.int .i64 (dn : Int)) := by rw [blk_cell HW1.out.1.aB]; rfl
  have habl : ab < W1.heap.size := blk_lt HW1.out.1.aB
  have HBl : Hid (w.heap.size < W1.heap.size) := blk_lt HW1.out.1.nB
  clear hrow hb1 hml hmn HX1
  go_wp2_with fail
  refine (HPy.out W1 dn (Below.refl _ _) (by have := HG.out.done; have := HG.out.fuel; have := HAt.out.2; omega)).mono ?_
  rintro e W2 ⟨px, rr, db, pv, tv, pl, rfl, hMo, hpl, hb2⟩
  obtain ⟨xm, hxm⟩ : ∃ xm, xm = play (d.jobs.getD q jobM0).steps (vIn ml) dn mo0 := ⟨_, rfl⟩
  rw [← hxm] at hMo
  have HXm : Hid (xm = play (d.jobs.getD q jobM0).steps (mapF (d.goods.take (d.workers.getD i att0).beg)) (d.workers.getD i att0).done mo0) := by show xm = _; rw [hxm, HMl.out, HG.out.map, HAt.out.2]
  have HM2 : Hid (Mom W1.heap.size W2 px rr db pv tv xm pl ∧ GoX F w W2 rb d v ab tk bg dn ∧ Below W1.heap.size W1 W2) := ⟨hMo, HW1.out.1.below hb2, hb2⟩
  have HPl : Hid (pl.length ≤ dn + 1) := by show pl.length ≤ dn + 1; omega
  have HKy : Hid (KeysOK xm) := by rw [hxm]; exact keys_play HG.out.job _ _ (fun k v hk => by cases hk)
  have p0 : W2.cell? ⟨px, 0, none⟩ = some (.int .i64 (xm.pc : Int)) := by rw [blk_cell hMo.blk]; rfl
  have c2 : W2.cell? ⟨rb, 2, none⟩ = some (.int .i64 (d.c.fuel : Int)) := by rw [blk_cell HM2.out.2.1.rd.blk]; rfl
  have b2 : W2.cell? ⟨ab, 2, none⟩ = some (.int .i64 (dn : Int)) := by rw [blk_cell HM2.out.2.1.aB]; rfl
  clear hMo hpl hb2 hxm
  by_cases hA : sn ≤ xm.pc
  · have mA : (sn : Int) ≤ (xm.pc : Int) := by omega
    have HA : Hid ((d.jobs.getD q jobM0).steps.length ≤ xm.pc) := by rw [← HSn.out.1]; exact hA
    have HBx : Hid (W1.heap.size ≤ W2.heap.size) := HM2.out.2.2.size
    clear HPy
    go_wp2_with fail
    clear p0 c2 b2
    have hfa := refLooked_any (fun k => F k ∧ k ≠ w.heap.size) W1.heap.size W2 rb d v i q px rr db pv tv xm pl 3 (HM2.out.2.1).rd (HM2.out.1) HG.out.hi HG.out.hq HG.out.hqN ⟨HG.out.n1.1, HG.out.n1.2.1, HG.out.n1.2.2, by have := HG.out.done; have := HG.out.fuel; have := HAt.out.2; have := HPl.out; omega⟩ ⟨HG.out.beg, HG.out.n2⟩ HKy.out (fun k hk => ⟨HF.out k (by have := HBl.out; omega), by have := HBl.out; omega⟩) HBx.out (fun k hk => by
      have := HBl.out
      rcases hk with hk | hk
      · have := (owns_lt H.out.queue hk).2; omega
      · have := (owns_lt H.out.urg hk).2; omega)
    unfold ptrV natV at hfa
    refine hfa.mono ?_
    clear hfa
    rintro e W8 ⟨rfl, v8, hr8, hf8⟩
    obtain ⟨nt, hnt⟩ : ∃ nt, nt = d.looked i xm 3 := ⟨_, rfl⟩
    have HLk : Hid (d.goes i = nt) := by rw [hnt]; exact goes_1 HG.out HXm.out HA.out
    rw [← hnt] at hr8 ⊢
    have hN8 : W8.heap[w.heap.size]? = some (.cells #[.int .i64 0, .int .i64 0, .int .i64 0] 122 (0, 0)) := hf8.blk (HM2.out.2.1).nB (fun h => h.2 rfl)
    have HR8 : Hid (RD (fun k => F k ∧ k ≠ w.heap.size) W8 rb nt.1 v8 ∧ Fr F w W8) := ⟨hr8, (Fr.of_below (S := F) (HM2.out.2.1).bel).trans hf8 (fun _ _ h => h.1)⟩
    have o0 : W8.cell? ⟨w.heap.size, 0, none⟩ = some (.int .i64 0) := by rw [blk_cell hN8]; rfl
    have o1 : W8.cell? ⟨w.heap.size, 1, none⟩ = some (.int .i64 0) := by rw [blk_cell hN8]; rfl
    have o2 : W8.cell? ⟨w.heap.size, 2, none⟩ = some (.int .i64 0) := by rw [blk_cell hN8]; rfl
    have of : ∀ z, W8.frozen? ⟨w.heap.size, z, none⟩ = false := fun z => blk_free hN8
    obtain ⟨nd, na, nb, nc⟩ := nt
    unfold noteV natV
    clear hnt hr8 hf8 hN8
    go_wp2
    refine bodyPost_ret (v := .agg #[.int .i64 na, .int .i64 (nb : Int), .int .i64 (nc : Int)]) (by simp [results, Tryz.results86, go_sem, o0, o1, o2]) rfl ?_
    rw [HLk.out]
    first
      | exact (rstep_note (n0 := w.heap.size) HR8.out.1 HR8.out.2 (Nat.le_refl _) _ _ _).drew
      | exact rstep_note (n0 := w.heap.size) HR8.out.1 HR8.out.2 (Nat.le_refl _) _ _ _
  · have mA : ¬ (sn : Int) ≤ (xm.pc : Int) := by omega
    have HA : Hid (¬ (d.jobs.getD q jobM0).steps.length ≤ xm.pc) := by rw [← HSn.out.1]; exact hA
    by_cases hD : dn = d.c.fuel
    · have mD : (dn : Int) = (d.c.fuel : Int) := by omega
      have HD : Hid ((d.workers.getD i att0).done = d.c.fuel) := by rw [← HAt.out.2]; exact hD
      have HBx : Hid (W1.heap.size ≤ W2.drew.heap.size) := HM2.out.2.2.size
      clear HPy
      go_wp2
      go_region
      go_wp2_with fail
      clear p0 c2 b2 hD mD
      have hfa := refLooked_any (fun k => F k ∧ k ≠ w.heap.size) W1.heap.size W2.drew rb d v i q px rr db pv tv xm pl 5 (HM2.out.2.1.below (Below.refl _ _).drew).rd (HM2.out.1.drew) HG.out.hi HG.out.hq HG.out.hqN ⟨HG.out.n1.1, HG.out.n1.2.1, HG.out.n1.2.2, by have := HG.out.done; have := HG.out.fuel; have := HAt.out.2; have := HPl.out; omega⟩ ⟨HG.out.beg, HG.out.n2⟩ HKy.out (fun k hk => ⟨HF.out k (by have := HBl.out; omega), by have := HBl.out; omega⟩) HBx.out (fun k hk => by
        have := HBl.out
        rcases hk with hk | hk
        · have := (owns_lt H.out.queue hk).2; omega
        · have := (owns_lt H.out.urg hk).2; omega)
      unfold ptrV natV at hfa
      refine hfa.mono ?_
      clear hfa
      rintro e W8 ⟨rfl, v8, hr8, hf8⟩
      obtain ⟨nt, hnt⟩ : ∃ nt, nt = d.looked i xm 5 := ⟨_, rfl⟩
      have HLk : Hid (d.goes i = nt) := by rw [hnt]; exact goes_2 HG.out HXm.out HA.out HD.out
      rw [← hnt] at hr8 ⊢
      have hN8 : W8.heap[w.heap.size]? = some (.cells #[.int .i64 0, .int .i64 0, .int .i64 0] 122 (0, 0)) := hf8.blk (HM2.out.2.1.below (Below.refl _ _).drew).nB (fun h => h.2 rfl)
      have HR8 : Hid (RD (fun k => F k ∧ k ≠ w.heap.size) W8 rb nt.1 v8 ∧ Fr F w W8) := ⟨hr8, (Fr.of_below (S := F) (HM2.out.2.1.below (Below.refl _ _).drew).bel).trans hf8 (fun _ _ h => h.1)⟩
      have o0 : W8.cell? ⟨w.heap.size, 0, none⟩ = some (.int .i64 0) := by rw [blk_cell hN8]; rfl
      have o1 : W8.cell? ⟨w.heap.size, 1, none⟩ = some (.int .i64 0) := by rw [blk_cell hN8]; rfl
      have o2 : W8.cell? ⟨w.heap.size, 2, none⟩ = some (.int .i64 0) := by rw [blk_cell hN8]; rfl
      have of : ∀ z, W8.frozen? ⟨w.heap.size, z, none⟩ = false := fun z => blk_free hN8
      obtain ⟨nd, na, nb, nc⟩ := nt
      unfold noteV natV
      clear hnt hr8 hf8 hN8
      go_wp2
      refine bodyPost_ret (v := .agg #[.int .i64 na, .int .i64 (nb : Int), .int .i64 (nc : Int)]) (by simp [results, Tryz.results86, go_sem, o0, o1, o2]) rfl ?_
      rw [HLk.out]
      first
        | exact (rstep_note (n0 := w.heap.size) HR8.out.1 HR8.out.2 (Nat.le_refl _) _ _ _).drew
        | exact rstep_note (n0 := w.heap.size) HR8.out.1 HR8.out.2 (Nat.le_refl _) _ _ _
    · have mD : ¬ (dn : Int) = (d.c.fuel : Int) := by omega
      have HD : Hid (¬ (d.workers.getD i att0).done = d.c.fuel) := by rw [← HAt.out.2]; exact hD
      have hwd : IntKind.i64.wrap ((dn : Int) + 1) = ((dn + 1 : Nat) : Int) := by rw [IntKind.wrap_i64]; have := HG.out.done; have := HG.out.fuel; have := HAt.out.2; omega
      go_wp2
      go_region
      go_wp2_with fail
      refine (HPy.out W2.drew (dn + 1) (HM2.out.2.2.trans ((Below.refl _ _).drew.mono HM2.out.2.2.size)) (by have := HG.out.done; have := HG.out.fuel; have := HAt.out.2; omega)).mono ?_
      rintro e W3 ⟨px3, rr3, db3, pv3, tv3, pl3, rfl, hMo, hpl, hb3⟩
      obtain ⟨ym, hym⟩ : ∃ ym, ym = play (d.jobs.getD q jobM0).steps (vIn ml) (dn + 1) mo0 := ⟨_, rfl⟩
      rw [← hym] at hMo
      have HYm : Hid (ym = play (d.jobs.getD q jobM0).steps (mapF (d.goods.take (d.workers.getD i att0).beg)) ((d.workers.getD i att0).done + 1) mo0) := by show ym = _; rw [hym, HMl.out, HG.out.map, HAt.out.2]
      have HM3 : Hid (Mom W2.drew.heap.size W3 px3 rr3 db3 pv3 tv3 ym pl3 ∧ GoX F w W3 rb d v ab tk bg dn ∧ Below W2.drew.heap.size W2.drew W3) := ⟨hMo, (HM2.out.2.1.below (Below.refl _ _).drew).below hb3, hb3⟩
      have HPl : Hid (pl3.length ≤ dn + 1) := by show pl3.length ≤ dn + 1; omega
      have HKy : Hid (KeysOK ym) := by rw [hym]; exact keys_play HG.out.job _ _ (fun k v hk => by cases hk)
      have p6 : W3.cell? ⟨px3, 6, none⟩ = some (.int .i64 ym.fin) := by rw [blk_cell hMo.blk]; rfl
      have b2 : W3.cell? ⟨ab, 2, none⟩ = some (.int .i64 (dn : Int)) := by rw [blk_cell HM3.out.2.1.aB]; rfl
      have b0 : W3.cell? ⟨ab, 0, none⟩ = some (.int .i64 (tk : Int)) := by rw [blk_cell HM3.out.2.1.aB]; rfl
      have HBx : Hid (W2.drew.heap.size ≤ W3.heap.size) := hb3.size
      have HBl : Hid (w.heap.size < W2.drew.heap.size) := by have := HM2.out.2.2.size; have := HBl.out; show w.heap.size < W2.heap.size; omega
      clear hMo hpl hb3 hym p0 c2 HPy
      by_cases hFi : ym.fin = 0
      · have HFi : Hid (ym.fin = 0) := hFi
        have R3 := HM3.out.2.1.rd
        obtain ⟨wg3, wcap3, hwv3, hwl3, hwc3⟩ := owns_pos R3.work (by omega)
        have e7 : W3.cell? ⟨rb, 7, none⟩ = some (.slice (some ⟨wg3, 0, none⟩) d.workers.length wcap3) := by rw [blk_cell R3.blk, ← hwv3]; rfl
        have a2 : W3.cell? ⟨wg3, i * 3 + 2, none⟩ = some (.int .i64 (dn : Int)) := ((hwc3 (i * 3 + 2) (by omega)).trans (attCells_at d.workers hi (by decide))).trans (by rw [HAt.out.2]; rfl)
        have hWow : W3.ownsRow 0 136 3 (.slice (some ⟨wg3, 0, none⟩) d.workers.length wcap3) d.workers.length (attCells d.workers) := by rw [← hwv3]; exact R3.work
        have wf : ∀ z, W3.frozen? ⟨wg3, z, none⟩ = false := fun z => hWow.frozenAt z
        have hw3 : wg3 < w.heap.size := (owns_lt H.out.work (k := wg3) (by rw [hwv3]; rfl)).2
        have e1 : ab ≠ wg3 := by have := HM3.out.2.1.hab; omega
        have e2 : w.heap.size ≠ wg3 := by omega
        have hs : ∀ Y, GoX F w Y rb d v ab tk bg dn → RD (fun k => F k ∧ k ≠ w.heap.size) (Y.setCell ⟨wg3, i * 3 + 2, none⟩ (.int .i64 ((dn + 1 : Nat) : Int))) rb { d with workers := d.workers.set i { d.workers.getD i att0 with done := (d.workers.getD i att0).done + 1 } } v ∧ Fr F w (Y.setCell ⟨wg3, i * 3 + 2, none⟩ (.int .i64 ((dn + 1 : Nat) : Int))) := fun Y hY => by
          rw [HAt.out.2]
          exact hY.stepped hi hwv3 _
        have HS : Hid (∀ Y, GoX F w Y rb d v ab tk bg dn → RD (fun k => F k ∧ k ≠ w.heap.size) (Y.setCell ⟨wg3, i * 3 + 2, none⟩ (.int .i64 ((dn + 1 : Nat) : Int))) rb { d with workers := d.workers.set i { d.workers.getD i att0 with done := (d.workers.getD i att0).done + 1 } } v ∧ Fr F w (Y.setCell ⟨wg3, i * 3 + 2, none⟩ (.int .i64 ((dn + 1 : Nat) : Int)))) := hs
        have o0 : W3.cell? ⟨w.heap.size, 0, none⟩ = some (.int .i64 0) := by rw [blk_cell HM3.out.2.1.nB]; rfl
        have o1 : W3.cell? ⟨w.heap.size, 1, none⟩ = some (.int .i64 0) := by rw [blk_cell HM3.out.2.1.nB]; rfl
        have o2 : W3.cell? ⟨w.heap.size, 2, none⟩ = some (.int .i64 0) := by rw [blk_cell HM3.out.2.1.nB]; rfl
        have of : ∀ z, W3.frozen? ⟨w.heap.size, z, none⟩ = false := fun z => blk_free HM3.out.2.1.nB
        have HLk : Hid (d.goes i = ({ d with workers := d.workers.set i { d.workers.getD i att0 with done := (d.workers.getD i att0).done + 1 } }, 2, tk, 0)) := by
          have h := goes_4 HG.out HXm.out HA.out HD.out HYm.out HFi.out
          rw [← HTk.out] at h
          exact h
        clear hs R3 hwv3 hwc3 hWow
        go_wp2
        go_region
        go_wp2
        refine bodyPost_ret (v := .agg #[.int .i64 2, .int .i64 (tk : Int), .int .i64 0]) (by simp [results, Tryz.results86, go_sem, o0, o1, o2]) rfl ?_
        rw [HLk.out]
        have hh := HS.out W3 HM3.out.2.1
        first
          | exact (rstep_note (r := .agg #[.int .i64 2, .int .i64 (tk : Int), .int .i64 0]) (n0 := w.heap.size) hh.1 hh.2 (Nat.le_refl _) (.int .i64 2) (.int .i64 (tk : Int)) (.int .i64 0)).drew
      · have HFi : Hid (¬ ym.fin = 0) := hFi
        go_wp2_with fail
        clear p6 b2 b0
        have hfa := refLooked_any (fun k => F k ∧ k ≠ w.heap.size) W2.drew.heap.size W3 rb d v i q px3 rr3 db3 pv3 tv3 ym pl3 ym.fin (HM3.out.2.1).rd (HM3.out.1) HG.out.hi HG.out.hq HG.out.hqN ⟨HG.out.n1.1, HG.out.n1.2.1, HG.out.n1.2.2, by have := HG.out.done; have := HG.out.fuel; have := HAt.out.2; have := HPl.out; omega⟩ ⟨HG.out.beg, HG.out.n2⟩ HKy.out (fun k hk => ⟨HF.out k (by have := HBl.out; omega), by have := HBl.out; omega⟩) HBx.out (fun k hk => by
          have := HBl.out
          rcases hk with hk | hk
          · have := (owns_lt H.out.queue hk).2; omega
          · have := (owns_lt H.out.urg hk).2; omega)
        unfold ptrV natV at hfa
        refine hfa.mono ?_
        clear hfa
        rintro e W8 ⟨rfl, v8, hr8, hf8⟩
        obtain ⟨nt, hnt⟩ : ∃ nt, nt = d.looked i ym ym.fin := ⟨_, rfl⟩
        have HLk : Hid (d.goes i = nt) := by rw [hnt]; exact goes_3 HG.out HXm.out HA.out HD.out HYm.out HFi.out
        rw [← hnt] at hr8 ⊢
        have hN8 : W8.heap[w.heap.size]? = some (.cells #[.int .i64 0, .int .i64 0, .int .i64 0] 122 (0, 0)) := hf8.blk (HM3.out.2.1).nB (fun h => h.2 rfl)
        have HR8 : Hid (RD (fun k => F k ∧ k ≠ w.heap.size) W8 rb nt.1 v8 ∧ Fr F w W8) := ⟨hr8, (Fr.of_below (S := F) (HM3.out.2.1).bel).trans hf8 (fun _ _ h => h.1)⟩
        have o0 : W8.cell? ⟨w.heap.size, 0, none⟩ = some (.int .i64 0) := by rw [blk_cell hN8]; rfl
        have o1 : W8.cell? ⟨w.heap.size, 1, none⟩ = some (.int .i64 0) := by rw [blk_cell hN8]; rfl
        have o2 : W8.cell? ⟨w.heap.size, 2, none⟩ = some (.int .i64 0) := by rw [blk_cell hN8]; rfl
        have of : ∀ z, W8.frozen? ⟨w.heap.size, z, none⟩ = false := fun z => blk_free hN8
        obtain ⟨nd, na, nb, nc⟩ := nt
        unfold noteV natV
        clear hnt hr8 hf8 hN8
        go_wp2
        refine bodyPost_ret (v := .agg #[.int .i64 na, .int .i64 (nb : Int), .int .i64 (nc : Int)]) (by simp [results, Tryz.results86, go_sem, o0, o1, o2]) rfl ?_
        rw [HLk.out]
        first
          | exact (rstep_note (n0 := w.heap.size) HR8.out.1 HR8.out.2 (Nat.le_refl _) _ _ _).drew
          | exact rstep_note (n0 := w.heap.size) HR8.out.1 HR8.out.2 (Nat.le_refl _) _ _ _
end Go.Proofs.YtlbmcdoldnajoaaGreat
