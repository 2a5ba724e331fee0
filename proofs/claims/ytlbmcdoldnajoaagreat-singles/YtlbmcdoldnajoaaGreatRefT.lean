import Derived.Test.YtlbmcdoldnajoaaGreatRefF
set_option maxRecDepth 100000
set_option maxHeartbeats 1000000
namespace Go.Proofs.YtlbmcdoldnajoaaGreat
open Go.RowKit
def idN (l : List JobM) : Bool := l.all fun j => decide (j.state ≠ 2)
def huN (l : List JobM) : Bool := l.any fun j => j.urgent && decide (j.state ≤ 2)
theorem idN_take (l : List JobM) {j : Nat} (hj : j < l.length) : idN (l.take (j + 1)) = (idN (l.take j) && decide ((l.getD j jobM0).state ≠ 2)) := by
  have e : l.getD j jobM0 = l[j] := by simp [List.getD, hj]
  rw [idN, List.take_succ_eq_append_getElem hj, List.all_append, e]
  simp [idN]
theorem huN_take (l : List JobM) {j : Nat} (hj : j < l.length) : huN (l.take (j + 1)) = (huN (l.take j) || ((l.getD j jobM0).urgent && decide ((l.getD j jobM0).state ≤ 2))) := by
  have e : l.getD j jobM0 = l[j] := by simp [List.getD, hj]
  rw [huN, List.take_succ_eq_append_getElem hj, List.any_append, e]
  simp [huN]
theorem idle_eq (d : DeskM) : d.idle = idN d.jobs := rfl
theorem hurry_eq (d : DeskM) : d.hurry = huN d.jobs := rfl
theorem taken_no {d : DeskM} {i : Nat} (h : d.nextJob = 0) : d.taken i = (d, 0, 0, 0) := by unfold DeskM.taken; simp only [h, if_true]
theorem taken_yes {d : DeskM} {i q : Nat} (h : d.nextJob = q + 1) : d.taken i = ({ d with jobs := d.jobs.set q { d.jobs.getD q jobM0 with state := 2, tries := (d.jobs.getD q jobM0).tries + 1 }, queue := DeskM.left d.queue (q + 1), urgent := DeskM.left d.urgent (q + 1), workers := d.workers.set i ⟨q + 1, d.goods.length, 0⟩ }, 1, q + 1, 0) := by
  unfold DeskM.taken; simp only [h]; rw [if_neg (by omega)]; rfl
theorem RStep.drew {F : Nat → Prop} {w W : World} {rb : Nat} {d' : DeskM} {r : Value} {e : Ending} (h : RStep F w rb d' r e W) : RStep F w rb d' r e W.drew := by
  obtain ⟨h1, v', h2, h3⟩ := h
  exact ⟨h1, v', h2.below (Below.refl _ _).drew, h3.drew⟩
theorem refTaken_any (F : Nat → Prop) (w : World) (rb : Nat) (d : DeskM) (v : RV) (i : Nat) (h : RD F w rb d v) (hi : i < d.workers.length) (hn : d.jobs.length ≤ 1000000000) (hq : d.queue.length ≤ 1000000000 ∧ d.urgent.length ≤ 1000000000 ∧ d.workers.length ≤ 1000 ∧ d.goods.length ≤ 1000000000 ∧ ∀ k, k < d.jobs.length → (d.jobs.getD k jobM0).tries ≤ 1000000000)
    (hu : d.hurry = true → d.idle = true → 0 < d.urgent.length) (hj : d.nextJob ≤ d.jobs.length) (hF : ∀ k, w.heap.size ≤ k → F k) :
    Calls Tryz.prog 85 #[ptrV rb, natV i] w fun e w' => RStep F w rb (d.taken i).1 (noteV (d.taken i).2) e w' := by
  have H : Hid (RD F w rb d v) := h
  have HF : Hid (∀ k, w.heap.size ≤ k → F k) := hF
  have HQ : Hid (d.queue.length ≤ 1000000000 ∧ d.urgent.length ≤ 1000000000 ∧ d.workers.length ≤ 1000 ∧ d.goods.length ≤ 1000000000 ∧ ∀ k, k < d.jobs.length → (d.jobs.getD k jobM0).tries ≤ 1000000000) := hq
  have HU : Hid (d.hurry = true → d.idle = true → 0 < d.urgent.length) := hu
  have HJn : Hid (d.nextJob ≤ d.jobs.length) := hj
  obtain ⟨N, hN⟩ : ∃ N, N = d.jobs.length := ⟨_, rfl⟩
  have HN : Hid (N = d.jobs.length) := hN
  rw [← hN] at hn
  obtain ⟨ja, jc, hjv⟩ := owns_form h.jobs
  rw [← hN] at hjv
  have HJ : Hid (v.jv = .slice ja N jc) := hjv
  obtain ⟨qa, qc, hqv⟩ := owns_form h.queue
  obtain ⟨ua, uc, huv⟩ := owns_form h.urg
  have HQV : Hid (v.qv = .slice qa d.queue.length qc) := hqv
  have HUV : Hid (v.uv = .slice ua d.urgent.length uc) := huv
  have c4 : w.cell? ⟨rb, 4, none⟩ = some (.slice ja N jc) := by rw [blk_cell h.blk, ← hjv]; rfl
  have c5 : w.cell? ⟨rb, 5, none⟩ = some (.slice qa d.queue.length qc) := by rw [blk_cell h.blk, ← hqv]; rfl
  have c6 : w.cell? ⟨rb, 6, none⟩ = some (.slice ua d.urgent.length uc) := by rw [blk_cell h.blk, ← huv]; rfl
  have hrb := blk_lt h.blk
  have hq1 := hq.1
  have hq2 := hq.2.1
  have HI : Hid (i < d.workers.length) := hi
  unfold ptrV natV
  clear h hF hq hu hj hN hjv hqv huv hi
  go_enter Tryz.func85, Tryz.ntmps85
  go_wp2
  go_loop [5, 6, 7] (fun id ug k => ∃ j : Nat, j ≤ N ∧ k = .int .i64 j ∧ id = .bool (idN (d.jobs.take j)) ∧ ug = .bool (huN (d.jobs.take j))) (fun _ _ k => N - (intOf k).toNat)
  case atStart => exact ⟨0, Nat.zero_le _, rfl, rfl, rfl⟩
  case round =>
    obtain ⟨j, hj, rfl, rfl, rfl⟩ := hrel
    by_cases hlt : j < N
    · have hjl : j < d.jobs.length := by rw [← HN.out]; exact hlt
      obtain ⟨g, cap, hv, hgl, hcell⟩ := owns_pos H.out.jobs (by omega)
      rw [HJ.out] at hv
      injection hv with h1 h2 h3
      subst h1 h3
      have cj := (hcell j (by omega)).trans (H.out.jsGet hjl)
      obtain ⟨_, k2⟩ := H.out.jb j hjl
      have e1 : w.cell? ⟨v.js.getD j 0, 1, none⟩ = some (.int .i64 (d.jobs.getD j jobM0).state) := by rw [blk_cell k2]; rfl
      have e5 : w.cell? ⟨v.js.getD j 0, 5, none⟩ = some (.bool (d.jobs.getD j jobM0).urgent) := by rw [blk_cell k2]; rfl
      have hjb := blk_lt k2
      have HId : Hid (idN (d.jobs.take (j + 1)) = (idN (d.jobs.take j) && decide ((d.jobs.getD j jobM0).state ≠ 2))) := idN_take d.jobs hjl
      have HHu : Hid (huN (d.jobs.take (j + 1)) = (huN (d.jobs.take j) || ((d.jobs.getD j jobM0).urgent && decide ((d.jobs.getD j jobM0).state ≤ 2)))) := huN_take d.jobs hjl
      generalize v.js.getD j 0 = jb at cj e1 e5 hjb
      generalize (d.jobs.getD j jobM0).state = st at e1 HId HHu
      generalize (d.jobs.getD j jobM0).urgent = ug at e5 HHu
      generalize idN (d.jobs.take j) = idb at HId ⊢
      generalize huN (d.jobs.take j) = hub at HHu ⊢
      have m1 : (j : Int) < (N : Int) := by omega
      unfold ptrV at cj
      clear k2 hcell h2
      have hst : (st = 2) ∨ (¬ st = 2 ∧ st ≤ 2) ∨ (¬ st = 2 ∧ ¬ st ≤ 2) := by omega
      rcases hst with q | ⟨q, q'⟩ | ⟨q, q'⟩
      · subst q
        cases idb <;> cases hub <;> cases ug
        all_goals
          go_wp2
          go_round
          case rel => exact ⟨j + 1, by omega, by go_num, by rw [HId.out]; rfl, by rw [HHu.out]; rfl⟩
          case measure => simp [intOf]; omega
      · cases idb <;> cases hub <;> cases ug
        all_goals
          go_wp2
          go_round
          case rel => exact ⟨j + 1, by omega, by go_num, by rw [HId.out]; simp [q], by rw [HHu.out]; simp [q']⟩
          case measure => simp [intOf]; omega
      · cases idb <;> cases hub <;> cases ug
        all_goals
          go_wp2
          go_round
          case rel => exact ⟨j + 1, by omega, by go_num, by rw [HId.out]; simp [q], by rw [HHu.out]; simp [q']⟩
          case measure => simp [intOf]; omega
    · obtain rfl : j = N := by omega
      have e : d.jobs.take j = d.jobs := by rw [HN.out]; exact List.take_length
      rw [e, ← idle_eq, ← hurry_eq]
      clear e
      cases hh : d.hurry
      · by_cases hq0 : d.queue.length = 0
        · have HNx : Hid (d.nextJob = 0) := by
            show _ = _
            unfold DeskM.nextJob
            rw [hh, List.eq_nil_of_length_eq_zero hq0]; rfl
          rw [hq0] at c5
          go_wp2
          refine bodyPost_ret (v := .agg #[.int .i64 0, .int .i64 0, .int .i64 0]) (by simp [results, Tryz.results85, go_sem]) rfl ?_
          rw [taken_no HNx.out]
          exact ⟨rfl, v, H.out.below ((Below.refl _ _).alloc (Nat.le_refl _) _), (Fr.refl _ _).alloc _⟩
        · obtain ⟨qg, qcap, hv, hqgl, hqcell⟩ := owns_pos H.out.queue (by omega)
          rw [HQV.out] at hv
          injection hv with h1 h2 h3
          subst h1 h3
          have cq : w.cell? ⟨qg, 0, none⟩ = some (.int .i64 (d.queue.getD 0 0 : Nat)) := (hqcell 0 (by omega)).trans (by simp [List.getD, natV, Nat.pos_of_ne_zero hq0])
          have hNx : d.nextJob = d.queue.getD 0 0 := by
            unfold DeskM.nextJob
            rw [hh]; rfl
          obtain ⟨n, hnn⟩ : ∃ n, n = d.queue.getD 0 0 := ⟨_, rfl⟩
          rw [← hnn] at cq hNx
          have mq : (0 : Int) < (d.queue.length : Int) := by omega
          have HNx : Hid (d.nextJob = n) := hNx
          clear hnn hNx hqcell h2 hh
          by_cases h0 : n = 0
          · subst h0
            go_wp2
            refine bodyPost_ret (v := .agg #[.int .i64 0, .int .i64 0, .int .i64 0]) (by simp [results, Tryz.results85, go_sem]) rfl ?_
            rw [taken_no HNx.out]
            exact ⟨rfl, v, H.out.below ((Below.refl _ _).alloc (Nat.le_refl _) _), (Fr.refl _ _).alloc _⟩
          · have m0 : ¬ ((n : Int) = 0) := by omega
            go_wp2_with fail
            refine name_calls (p := fun X => RD (fun k => F k ∧ k ≠ w.heap.size) X rb d v ∧ Fr F w X ∧ X.heap[w.heap.size]? = some (.cells #[.int .i64 0, .int .i64 0, .int .i64 0] 122 (0, 0))) ⟨(H.out.mono (fun k hk hFk => ⟨hFk, by omega⟩)).below ((Below.refl _ _).alloc (Nat.le_refl _) _), (Fr.refl _ _).alloc _, heap_alloc_new _ _⟩ ?_
            rintro X0 ⟨r0, f0, x0⟩
            have HX0 : Hid (RD (fun k => F k ∧ k ≠ w.heap.size) X0 rb d v ∧ Fr F w X0 ∧ X0.heap[w.heap.size]? = some (.cells #[.int .i64 0, .int .i64 0, .int .i64 0] 122 (0, 0))) := ⟨r0, f0, x0⟩
            clear r0 f0 x0 c4 c5 c6 cq
            refine (refLeft_any X0 _ d.queue n HQ.out.1 (by rw [← HQV.out]; exact HX0.out.1.queue)).mono ?_
            rintro e W2 ⟨ov, rfl, hov, hb2⟩
            obtain ⟨oa, oc, rfl⟩ := owns_form hov
            have hs1 := HX0.out.2.1.size
            have hnl := blk_lt HX0.out.2.2
            have HX2 : Hid (RD (fun k => F k ∧ k ≠ w.heap.size) (W2.setCell ⟨rb, 5, none⟩ (.slice oa (DeskM.left d.queue n).length oc)) rb { d with queue := DeskM.left d.queue n } { v with qv := .slice oa (DeskM.left d.queue n).length oc } ∧ Fr F w (W2.setCell ⟨rb, 5, none⟩ (.slice oa (DeskM.left d.queue n).length oc)) ∧ (W2.setCell ⟨rb, 5, none⟩ (.slice oa (DeskM.left d.queue n).length oc)).heap[w.heap.size]? = some (.cells #[.int .i64 0, .int .i64 0, .int .i64 0] 122 (0, 0))) := by
              have := RD.setQ (w1 := W2) (qv := .slice oa (DeskM.left d.queue n).length oc) (q := DeskM.left d.queue n) HX0.out.1 (owns_base hov (Nat.zero_le _)) (fun k hk => ⟨HF.out k (by have := owns_ge hov hk; omega), by have := owns_ge hov hk; omega⟩) (Fr.of_below hb2) (fun k hk hk2 => by have := owns_ge hov hk2; omega)
              exact ⟨this.1, HX0.out.2.1.trans this.2 (fun _ _ h => h.1), (blk_other (show w.heap.size ≠ rb by omega) _ _).trans ((hb2.block _ hnl).trans HX0.out.2.2)⟩
            have hrb1 := blk_lt HX0.out.1.blk
            have d5 : W2.cell? ⟨rb, 5, none⟩ = some v.qv := (hb2.cell (p := ⟨rb, 5, none⟩) hrb1).trans (by rw [blk_cell HX0.out.1.blk]; rfl)
            rw [HQV.out] at d5
            have df5 : W2.frozen? ⟨rb, 5, none⟩ = false := (hb2.frozen (p := ⟨rb, 5, none⟩) hrb1).trans (blk_free HX0.out.1.blk)
            have d6 : W2.cell? ⟨rb, 6, none⟩ = some v.uv := (hb2.cell (p := ⟨rb, 6, none⟩) hrb1).trans (by rw [blk_cell HX0.out.1.blk]; rfl)
            rw [HUV.out] at d6
            clear hov hb2
            go_wp2_with fail
            refine name_calls (p := fun X => RD (fun k => F k ∧ k ≠ w.heap.size) X rb { d with queue := DeskM.left d.queue n } { v with qv := .slice oa (DeskM.left d.queue n).length oc } ∧ Fr F w X ∧ X.heap[w.heap.size]? = some (.cells #[.int .i64 0, .int .i64 0, .int .i64 0] 122 (0, 0))) HX2.out ?_
            rintro X2 ⟨r2, f2, x2⟩
            have HX2' : Hid (RD (fun k => F k ∧ k ≠ w.heap.size) X2 rb { d with queue := DeskM.left d.queue n } { v with qv := .slice oa (DeskM.left d.queue n).length oc } ∧ Fr F w X2 ∧ X2.heap[w.heap.size]? = some (.cells #[.int .i64 0, .int .i64 0, .int .i64 0] 122 (0, 0))) := ⟨r2, f2, x2⟩
            clear r2 f2 x2 HX2 d5 df5 d6 HX0
            refine (refLeft_any X2 _ d.urgent n HQ.out.2.1 (by rw [← HUV.out]; exact HX2'.out.1.urg)).mono ?_
            rintro e W3 ⟨ov, rfl, hov, hb3⟩
            obtain ⟨pa, pc, rfl⟩ := owns_form hov
            have hs2 := HX2'.out.2.1.size
            have hnl2 := blk_lt HX2'.out.2.2
            have HX3 : Hid (RD (fun k => F k ∧ k ≠ w.heap.size) (W3.setCell ⟨rb, 6, none⟩ (.slice pa (DeskM.left d.urgent n).length pc)) rb { d with queue := DeskM.left d.queue n, urgent := DeskM.left d.urgent n } { v with qv := .slice oa (DeskM.left d.queue n).length oc, uv := .slice pa (DeskM.left d.urgent n).length pc } ∧ Fr F w (W3.setCell ⟨rb, 6, none⟩ (.slice pa (DeskM.left d.urgent n).length pc)) ∧ (W3.setCell ⟨rb, 6, none⟩ (.slice pa (DeskM.left d.urgent n).length pc)).heap[w.heap.size]? = some (.cells #[.int .i64 0, .int .i64 0, .int .i64 0] 122 (0, 0))) := by
              have := RD.setU (w1 := W3) (uv := .slice pa (DeskM.left d.urgent n).length pc) (q := DeskM.left d.urgent n) HX2'.out.1 (owns_base hov (Nat.zero_le _)) (fun k hk => ⟨HF.out k (by have := owns_ge hov hk; omega), by have := owns_ge hov hk; omega⟩) (Fr.of_below hb3) (fun k hk hk2 => by have := owns_ge hov hk2; omega)
              exact ⟨this.1, HX2'.out.2.1.trans this.2 (fun _ _ h => h.1), (blk_other (show w.heap.size ≠ rb by omega) _ _).trans ((hb3.block _ hnl2).trans HX2'.out.2.2)⟩
            have hrb2 := blk_lt HX2'.out.1.blk
            have d6 : W3.cell? ⟨rb, 6, none⟩ = some v.uv := (hb3.cell (p := ⟨rb, 6, none⟩) hrb2).trans (by rw [blk_cell HX2'.out.1.blk]; rfl)
            rw [HUV.out] at d6
            have df6 : W3.frozen? ⟨rb, 6, none⟩ = false := (hb3.frozen (p := ⟨rb, 6, none⟩) hrb2).trans (blk_free HX2'.out.1.blk)
            have R3 : RD (fun k => F k ∧ k ≠ w.heap.size) W3 rb { d with queue := DeskM.left d.queue n } { v with qv := .slice oa (DeskM.left d.queue n).length oc } := HX2'.out.1.below hb3
            obtain ⟨q, hqn⟩ : ∃ q, n = q + 1 := ⟨n - 1, by omega⟩
            have hqN : q < d.jobs.length := by have := HNx.out; have := HJn.out; omega
            have htr := HQ.out.2.2.2.2 q hqN
            obtain ⟨g, cap, hjvv, hgl, hcell⟩ := owns_pos R3.jobs (by show 0 < d.jobs.length; omega)
            have hjvv : v.jv = .slice (some ⟨g, 0, none⟩) d.jobs.length cap := hjvv
            have e4 : W3.cell? ⟨rb, 4, none⟩ = some (.slice (some ⟨g, 0, none⟩) d.jobs.length cap) := by rw [blk_cell R3.blk, ← hjvv]; rfl
            have cj : W3.cell? ⟨g, q, none⟩ = some (ptrV (v.js.getD q 0)) := (hcell q (by show q < d.jobs.length * 1; omega)).trans (R3.jsGet hqN)
            have ng : ¬ g = rb := fun e => owns_ne R3.jobs R3.blk (by decide) (by show v.jv.ownBlock = some rb; rw [hjvv, e]; rfl)
            have ng' : ¬ rb = g := fun e => ng e.symm
            obtain ⟨_, k2⟩ := R3.jb q hqN
            have k2 : W3.heap[v.js.getD q 0]? = some (.cells (jobC (d.jobs.getD q jobM0) (v.sv.getD q nilV) (v.tv.getD q nilV)) 133 (0, 0)) := k2
            have u1 : W3.cell? ⟨v.js.getD q 0, 1, none⟩ = some (.int .i64 (d.jobs.getD q jobM0).state) := by rw [blk_cell k2]; rfl
            have u3 : W3.cell? ⟨v.js.getD q 0, 3, none⟩ = some (.int .i64 ((d.jobs.getD q jobM0).tries : Nat)) := by rw [blk_cell k2]; rfl
            have uf : ∀ z, W3.frozen? ⟨v.js.getD q 0, z, none⟩ = false := fun z => blk_free k2
            have nj : ¬ v.js.getD q 0 = rb := fun e => blk_ne k2 R3.blk (by decide) e
            have nj' : ¬ rb = v.js.getD q 0 := fun e => nj e.symm
            obtain ⟨wg, wcap, hwv, hwgl, hwcell⟩ := owns_pos R3.work (by show 0 < d.workers.length; have := HI.out; omega)
            have hwv : v.wv = .slice (some ⟨wg, 0, none⟩) d.workers.length wcap := hwv
            have e7 : W3.cell? ⟨rb, 7, none⟩ = some (.slice (some ⟨wg, 0, none⟩) d.workers.length wcap) := by rw [blk_cell R3.blk, ← hwv]; rfl
            obtain ⟨ga, gcap, hgv⟩ := owns_form R3.goods
            have hgv : v.gv = .slice ga d.goods.length gcap := hgv
            have e8 : W3.cell? ⟨rb, 8, none⟩ = some (.slice ga d.goods.length gcap) := by rw [blk_cell R3.blk, ← hgv]; rfl
            have hat : ∀ k, k < 3 → W3.cell? ⟨wg, i * 3 + k, none⟩ = (attC (d.workers.getD i att0))[k]? := fun k hk => by
              rw [hwcell (i * 3 + k) (by show i * 3 + k < d.workers.length * 3; have := HI.out; omega)]
              exact attCells_at d.workers HI.out hk
            have a0 : W3.cell? ⟨wg, i * 3, none⟩ = some (.int .i64 ((d.workers.getD i att0).ticket : Nat)) := (hat 0 (by decide)).trans rfl
            have a1 : W3.cell? ⟨wg, i * 3 + 1, none⟩ = some (.int .i64 ((d.workers.getD i att0).beg : Nat)) := (hat 1 (by decide)).trans rfl
            have a2 : W3.cell? ⟨wg, i * 3 + 2, none⟩ = some (.int .i64 ((d.workers.getD i att0).done : Nat)) := (hat 2 (by decide)).trans rfl
            have hWow : W3.ownsRow 0 136 3 (.slice (some ⟨wg, 0, none⟩) d.workers.length wcap) d.workers.length (attCells d.workers) := by rw [← hwv]; exact R3.work
            have wf : ∀ z, W3.frozen? ⟨wg, z, none⟩ = false := fun z => hWow.frozenAt z
            obtain ⟨curw, hwb, _⟩ := owns_row hWow
            have nw1 : ¬ wg = rb := fun e => blk_ne hwb R3.blk (by decide) e
            have nw2 : ¬ wg = v.js.getD q 0 := fun e => blk_ne hwb k2 (by decide) e
            have nw1' : ¬ rb = wg := fun e => nw1 e.symm
            have nw2' : ¬ v.js.getD q 0 = wg := fun e => nw2 e.symm
            have hN3 : W3.heap[w.heap.size]? = some (.cells #[.int .i64 0, .int .i64 0, .int .i64 0] 122 (0, 0)) := (hb3.block _ hnl2).trans HX2'.out.2.2
            have o0 : W3.cell? ⟨w.heap.size, 0, none⟩ = some (.int .i64 0) := by rw [blk_cell hN3]; rfl
            have o1 : W3.cell? ⟨w.heap.size, 1, none⟩ = some (.int .i64 0) := by rw [blk_cell hN3]; rfl
            have o2 : W3.cell? ⟨w.heap.size, 2, none⟩ = some (.int .i64 0) := by rw [blk_cell hN3]; rfl
            have of : ∀ z, W3.frozen? ⟨w.heap.size, z, none⟩ = false := fun z => blk_free hN3
            have no1 : ¬ w.heap.size = rb := fun e => blk_ne hN3 R3.blk (by decide) e
            have no2 : ¬ w.heap.size = v.js.getD q 0 := fun e => blk_ne hN3 k2 (by decide) e
            have no3 : ¬ w.heap.size = wg := fun e => blk_ne hN3 hwb (by decide) e
            have no1' : ¬ rb = w.heap.size := fun e => no1 e.symm
            have no2' : ¬ v.js.getD q 0 = w.heap.size := fun e => no2 e.symm
            have no3' : ¬ wg = w.heap.size := fun e => no3 e.symm
            have hwn : IntKind.i64.wrap ((n : Int) - 1) = (q : Int) := by rw [IntKind.wrap_i64]; have := HN.out; omega
            have hwt : IntKind.i64.wrap (((d.jobs.getD q jobM0).tries : Int) + 1) = ((d.jobs.getD q jobM0).tries : Int) + 1 := by rw [IntKind.wrap_i64]; omega
            have mi : (i : Int) < (d.workers.length : Int) := by have := HI.out; omega
            have mqN : (q : Int) < (d.jobs.length : Int) := by omega
            have HX5 : Hid (RD (fun k => F k ∧ k ≠ w.heap.size) ((((((W3.setCell ⟨rb, 6, none⟩ (.slice pa (DeskM.left d.urgent n).length pc)).setCell ⟨v.js.getD q 0, 1, none⟩ (.int .i64 2)).setCell ⟨v.js.getD q 0, 3, none⟩ (.int .i64 (((d.jobs.getD q jobM0).tries : Int) + 1))).setCell ⟨wg, i * 3, none⟩ (.int .i64 (n : Int))).setCell ⟨wg, i * 3 + 1, none⟩ (.int .i64 (d.goods.length : Int))).setCell ⟨wg, i * 3 + 2, none⟩ (.int .i64 0)) rb (d.taken i).1 { v with qv := .slice oa (DeskM.left d.queue n).length oc, uv := .slice pa (DeskM.left d.urgent n).length pc } ∧
                Fr F w ((((((W3.setCell ⟨rb, 6, none⟩ (.slice pa (DeskM.left d.urgent n).length pc)).setCell ⟨v.js.getD q 0, 1, none⟩ (.int .i64 2)).setCell ⟨v.js.getD q 0, 3, none⟩ (.int .i64 (((d.jobs.getD q jobM0).tries : Int) + 1))).setCell ⟨wg, i * 3, none⟩ (.int .i64 (n : Int))).setCell ⟨wg, i * 3 + 1, none⟩ (.int .i64 (d.goods.length : Int))).setCell ⟨wg, i * 3 + 2, none⟩ (.int .i64 0)) ∧ (d.taken i).2 = (1, n, 0)) := by
              have ht := taken_yes (i := i) (HNx.out.trans hqn)
              rw [← hqn] at ht
              obtain ⟨b1, b2⟩ := HX3.out.1.jobCell2 (i := q) (c := 1) (c' := 3) (x := .int .i64 2) (x' := .int .i64 (((d.jobs.getD q jobM0).tries : Int) + 1)) (j1 := { d.jobs.getD q jobM0 with state := 2 }) (j2 := { d.jobs.getD q jobM0 with state := 2, tries := (d.jobs.getD q jobM0).tries + 1 }) hqN rfl rfl rfl rfl rfl rfl
              have hwv' : v.wv = .slice (some ⟨wg, 0, none⟩) d.workers.length wcap := hwv
              have hww := b1.work
              have hww : World.ownsRow _ 0 136 3 v.wv d.workers.length (attCells d.workers) := hww
              rw [hwv'] at hww
              have hown := (((hww.stored (i * 3) (.int .i64 (n : Int))).1.stored (i * 3 + 1) (.int .i64 (d.goods.length : Int))).1.stored (i * 3 + 2) (.int .i64 0)).1
              have ee : (((attCells d.workers).set (i * 3) (.int .i64 (n : Int))).set (i * 3 + 1) (.int .i64 (d.goods.length : Int))).set (i * 3 + 2) (.int .i64 0) = attCells (d.workers.set i ⟨n, d.goods.length, 0⟩) := attCells_set d.workers HI.out ⟨n, d.goods.length, 0⟩
              rw [ee, ← hwv'] at hown
              have hwk : ∀ k, k = wg → v.wv.ownBlock = some k := fun k hk => by rw [hwv', hk]; rfl
              obtain ⟨b3, b4⟩ := b1.setW (ws := d.workers.set i ⟨n, d.goods.length, 0⟩) (by simp) hown ((((Fr.refl _ _).setCell (p := ⟨wg, _, none⟩) (fun _ => hwk wg rfl) _).setCell (p := ⟨wg, _, none⟩) (fun _ => hwk wg rfl) _).setCell (p := ⟨wg, _, none⟩) (fun _ => hwk wg rfl) _)
              rw [ht]
              exact ⟨b3, HX3.out.2.1.trans (b2.trans b4 (fun _ _ h => h)) (fun _ _ h => h.1), rfl⟩
            generalize v.js.getD q 0 = jb at *
            generalize (d.jobs.getD q jobM0).tries = tr at *
            generalize (d.jobs.getD q jobM0).state = st at *
            unfold ptrV at cj
            clear hov hb3 R3 HX3 HX2' hcell hwcell hat k2 hjvv hwv hgv hWow hwb hN3 hqn
            go_wp2
            go_region
            all_goals
              go_wp2
              refine bodyPost_ret (v := .agg #[.int .i64 1, .int .i64 (n : Int), .int .i64 0]) (by simp [results, Tryz.results85, go_sem, o0, o1, o2]) rfl ?_
              rw [HX5.out.2.2]
              first
                | exact (rstep_note (n0 := w.heap.size) HX5.out.1 HX5.out.2.1 (Nat.le_refl _) _ _ _).drew
                | exact rstep_note (n0 := w.heap.size) HX5.out.1 HX5.out.2.1 (Nat.le_refl _) _ _ _
      · cases hd : d.idle
        · have HNx : Hid (d.nextJob = 0) := by
            show _ = _
            unfold DeskM.nextJob
            rw [hh, hd]; rfl
          go_wp2
          refine bodyPost_ret (v := .agg #[.int .i64 0, .int .i64 0, .int .i64 0]) (by simp [results, Tryz.results85, go_sem]) rfl ?_
          rw [taken_no HNx.out]
          exact ⟨rfl, v, H.out.below ((Below.refl _ _).alloc (Nat.le_refl _) _), (Fr.refl _ _).alloc _⟩
        · have hup := HU.out hh hd
          obtain ⟨ug, ucap, hv, hugl, hucell⟩ := owns_pos H.out.urg hup
          rw [HUV.out] at hv
          injection hv with h1 h2 h3
          subst h1 h3
          have cq : w.cell? ⟨ug, 0, none⟩ = some (.int .i64 (d.urgent.getD 0 0 : Nat)) := (hucell 0 (by omega)).trans (by simp [List.getD, natV, hup])
          have hNx : d.nextJob = d.urgent.getD 0 0 := by
            unfold DeskM.nextJob
            rw [hh, hd]; rfl
          obtain ⟨n, hnn⟩ : ∃ n, n = d.urgent.getD 0 0 := ⟨_, rfl⟩
          rw [← hnn] at cq hNx
          have mq : (0 : Int) < (d.urgent.length : Int) := by omega
          have HNx : Hid (d.nextJob = n) := hNx
          clear hnn hNx hucell h2 hh hd
          by_cases h0 : n = 0
          · subst h0
            go_wp2
            refine bodyPost_ret (v := .agg #[.int .i64 0, .int .i64 0, .int .i64 0]) (by simp [results, Tryz.results85, go_sem]) rfl ?_
            rw [taken_no HNx.out]
            exact ⟨rfl, v, H.out.below ((Below.refl _ _).alloc (Nat.le_refl _) _), (Fr.refl _ _).alloc _⟩
          · have m0 : ¬ ((n : Int) = 0) := by omega
            go_wp2_with fail
            refine name_calls (p := fun X => RD (fun k => F k ∧ k ≠ w.heap.size) X rb d v ∧ Fr F w X ∧ X.heap[w.heap.size]? = some (.cells #[.int .i64 0, .int .i64 0, .int .i64 0] 122 (0, 0))) ⟨(H.out.mono (fun k hk hFk => ⟨hFk, by omega⟩)).below ((Below.refl _ _).alloc (Nat.le_refl _) _), (Fr.refl _ _).alloc _, heap_alloc_new _ _⟩ ?_
            rintro X0 ⟨r0, f0, x0⟩
            have HX0 : Hid (RD (fun k => F k ∧ k ≠ w.heap.size) X0 rb d v ∧ Fr F w X0 ∧ X0.heap[w.heap.size]? = some (.cells #[.int .i64 0, .int .i64 0, .int .i64 0] 122 (0, 0))) := ⟨r0, f0, x0⟩
            clear r0 f0 x0 c4 c5 c6 cq
            refine (refLeft_any X0 _ d.queue n HQ.out.1 (by rw [← HQV.out]; exact HX0.out.1.queue)).mono ?_
            rintro e W2 ⟨ov, rfl, hov, hb2⟩
            obtain ⟨oa, oc, rfl⟩ := owns_form hov
            have hs1 := HX0.out.2.1.size
            have hnl := blk_lt HX0.out.2.2
            have HX2 : Hid (RD (fun k => F k ∧ k ≠ w.heap.size) (W2.setCell ⟨rb, 5, none⟩ (.slice oa (DeskM.left d.queue n).length oc)) rb { d with queue := DeskM.left d.queue n } { v with qv := .slice oa (DeskM.left d.queue n).length oc } ∧ Fr F w (W2.setCell ⟨rb, 5, none⟩ (.slice oa (DeskM.left d.queue n).length oc)) ∧ (W2.setCell ⟨rb, 5, none⟩ (.slice oa (DeskM.left d.queue n).length oc)).heap[w.heap.size]? = some (.cells #[.int .i64 0, .int .i64 0, .int .i64 0] 122 (0, 0))) := by
              have := RD.setQ (w1 := W2) (qv := .slice oa (DeskM.left d.queue n).length oc) (q := DeskM.left d.queue n) HX0.out.1 (owns_base hov (Nat.zero_le _)) (fun k hk => ⟨HF.out k (by have := owns_ge hov hk; omega), by have := owns_ge hov hk; omega⟩) (Fr.of_below hb2) (fun k hk hk2 => by have := owns_ge hov hk2; omega)
              exact ⟨this.1, HX0.out.2.1.trans this.2 (fun _ _ h => h.1), (blk_other (show w.heap.size ≠ rb by omega) _ _).trans ((hb2.block _ hnl).trans HX0.out.2.2)⟩
            have hrb1 := blk_lt HX0.out.1.blk
            have d5 : W2.cell? ⟨rb, 5, none⟩ = some v.qv := (hb2.cell (p := ⟨rb, 5, none⟩) hrb1).trans (by rw [blk_cell HX0.out.1.blk]; rfl)
            rw [HQV.out] at d5
            have df5 : W2.frozen? ⟨rb, 5, none⟩ = false := (hb2.frozen (p := ⟨rb, 5, none⟩) hrb1).trans (blk_free HX0.out.1.blk)
            have d6 : W2.cell? ⟨rb, 6, none⟩ = some v.uv := (hb2.cell (p := ⟨rb, 6, none⟩) hrb1).trans (by rw [blk_cell HX0.out.1.blk]; rfl)
            rw [HUV.out] at d6
            clear hov hb2
            go_wp2_with fail
            refine name_calls (p := fun X => RD (fun k => F k ∧ k ≠ w.heap.size) X rb { d with queue := DeskM.left d.queue n } { v with qv := .slice oa (DeskM.left d.queue n).length oc } ∧ Fr F w X ∧ X.heap[w.heap.size]? = some (.cells #[.int .i64 0, .int .i64 0, .int .i64 0] 122 (0, 0))) HX2.out ?_
            rintro X2 ⟨r2, f2, x2⟩
            have HX2' : Hid (RD (fun k => F k ∧ k ≠ w.heap.size) X2 rb { d with queue := DeskM.left d.queue n } { v with qv := .slice oa (DeskM.left d.queue n).length oc } ∧ Fr F w X2 ∧ X2.heap[w.heap.size]? = some (.cells #[.int .i64 0, .int .i64 0, .int .i64 0] 122 (0, 0))) := ⟨r2, f2, x2⟩
            clear r2 f2 x2 HX2 d5 df5 d6 HX0
            refine (refLeft_any X2 _ d.urgent n HQ.out.2.1 (by rw [← HUV.out]; exact HX2'.out.1.urg)).mono ?_
            rintro e W3 ⟨ov, rfl, hov, hb3⟩
            obtain ⟨pa, pc, rfl⟩ := owns_form hov
            have hs2 := HX2'.out.2.1.size
            have hnl2 := blk_lt HX2'.out.2.2
            have HX3 : Hid (RD (fun k => F k ∧ k ≠ w.heap.size) (W3.setCell ⟨rb, 6, none⟩ (.slice pa (DeskM.left d.urgent n).length pc)) rb { d with queue := DeskM.left d.queue n, urgent := DeskM.left d.urgent n } { v with qv := .slice oa (DeskM.left d.queue n).length oc, uv := .slice pa (DeskM.left d.urgent n).length pc } ∧ Fr F w (W3.setCell ⟨rb, 6, none⟩ (.slice pa (DeskM.left d.urgent n).length pc)) ∧ (W3.setCell ⟨rb, 6, none⟩ (.slice pa (DeskM.left d.urgent n).length pc)).heap[w.heap.size]? = some (.cells #[.int .i64 0, .int .i64 0, .int .i64 0] 122 (0, 0))) := by
              have := RD.setU (w1 := W3) (uv := .slice pa (DeskM.left d.urgent n).length pc) (q := DeskM.left d.urgent n) HX2'.out.1 (owns_base hov (Nat.zero_le _)) (fun k hk => ⟨HF.out k (by have := owns_ge hov hk; omega), by have := owns_ge hov hk; omega⟩) (Fr.of_below hb3) (fun k hk hk2 => by have := owns_ge hov hk2; omega)
              exact ⟨this.1, HX2'.out.2.1.trans this.2 (fun _ _ h => h.1), (blk_other (show w.heap.size ≠ rb by omega) _ _).trans ((hb3.block _ hnl2).trans HX2'.out.2.2)⟩
            have hrb2 := blk_lt HX2'.out.1.blk
            have d6 : W3.cell? ⟨rb, 6, none⟩ = some v.uv := (hb3.cell (p := ⟨rb, 6, none⟩) hrb2).trans (by rw [blk_cell HX2'.out.1.blk]; rfl)
            rw [HUV.out] at d6
            have df6 : W3.frozen? ⟨rb, 6, none⟩ = false := (hb3.frozen (p := ⟨rb, 6, none⟩) hrb2).trans (blk_free HX2'.out.1.blk)
            have R3 : RD (fun k => F k ∧ k ≠ w.heap.size) W3 rb { d with queue := DeskM.left d.queue n } { v with qv := .slice oa (DeskM.left d.queue n).length oc } := HX2'.out.1.below hb3
            obtain ⟨q, hqn⟩ : ∃ q, n = q + 1 := ⟨n - 1, by omega⟩
            have hqN : q < d.jobs.length := by have := HNx.out; have := HJn.out; omega
            have htr := HQ.out.2.2.2.2 q hqN
            obtain ⟨g, cap, hjvv, hgl, hcell⟩ := owns_pos R3.jobs (by show 0 < d.jobs.length; omega)
            have hjvv : v.jv = .slice (some ⟨g, 0, none⟩) d.jobs.length cap := hjvv
            have e4 : W3.cell? ⟨rb, 4, none⟩ = some (.slice (some ⟨g, 0, none⟩) d.jobs.length cap) := by rw [blk_cell R3.blk, ← hjvv]; rfl
            have cj : W3.cell? ⟨g, q, none⟩ = some (ptrV (v.js.getD q 0)) := (hcell q (by show q < d.jobs.length * 1; omega)).trans (R3.jsGet hqN)
            have ng : ¬ g = rb := fun e => owns_ne R3.jobs R3.blk (by decide) (by show v.jv.ownBlock = some rb; rw [hjvv, e]; rfl)
            have ng' : ¬ rb = g := fun e => ng e.symm
            obtain ⟨_, k2⟩ := R3.jb q hqN
            have k2 : W3.heap[v.js.getD q 0]? = some (.cells (jobC (d.jobs.getD q jobM0) (v.sv.getD q nilV) (v.tv.getD q nilV)) 133 (0, 0)) := k2
            have u1 : W3.cell? ⟨v.js.getD q 0, 1, none⟩ = some (.int .i64 (d.jobs.getD q jobM0).state) := by rw [blk_cell k2]; rfl
            have u3 : W3.cell? ⟨v.js.getD q 0, 3, none⟩ = some (.int .i64 ((d.jobs.getD q jobM0).tries : Nat)) := by rw [blk_cell k2]; rfl
            have uf : ∀ z, W3.frozen? ⟨v.js.getD q 0, z, none⟩ = false := fun z => blk_free k2
            have nj : ¬ v.js.getD q 0 = rb := fun e => blk_ne k2 R3.blk (by decide) e
            have nj' : ¬ rb = v.js.getD q 0 := fun e => nj e.symm
            obtain ⟨wg, wcap, hwv, hwgl, hwcell⟩ := owns_pos R3.work (by show 0 < d.workers.length; have := HI.out; omega)
            have hwv : v.wv = .slice (some ⟨wg, 0, none⟩) d.workers.length wcap := hwv
            have e7 : W3.cell? ⟨rb, 7, none⟩ = some (.slice (some ⟨wg, 0, none⟩) d.workers.length wcap) := by rw [blk_cell R3.blk, ← hwv]; rfl
            obtain ⟨ga, gcap, hgv⟩ := owns_form R3.goods
            have hgv : v.gv = .slice ga d.goods.length gcap := hgv
            have e8 : W3.cell? ⟨rb, 8, none⟩ = some (.slice ga d.goods.length gcap) := by rw [blk_cell R3.blk, ← hgv]; rfl
            have hat : ∀ k, k < 3 → W3.cell? ⟨wg, i * 3 + k, none⟩ = (attC (d.workers.getD i att0))[k]? := fun k hk => by
              rw [hwcell (i * 3 + k) (by show i * 3 + k < d.workers.length * 3; have := HI.out; omega)]
              exact attCells_at d.workers HI.out hk
            have a0 : W3.cell? ⟨wg, i * 3, none⟩ = some (.int .i64 ((d.workers.getD i att0).ticket : Nat)) := (hat 0 (by decide)).trans rfl
            have a1 : W3.cell? ⟨wg, i * 3 + 1, none⟩ = some (.int .i64 ((d.workers.getD i att0).beg : Nat)) := (hat 1 (by decide)).trans rfl
            have a2 : W3.cell? ⟨wg, i * 3 + 2, none⟩ = some (.int .i64 ((d.workers.getD i att0).done : Nat)) := (hat 2 (by decide)).trans rfl
            have hWow : W3.ownsRow 0 136 3 (.slice (some ⟨wg, 0, none⟩) d.workers.length wcap) d.workers.length (attCells d.workers) := by rw [← hwv]; exact R3.work
            have wf : ∀ z, W3.frozen? ⟨wg, z, none⟩ = false := fun z => hWow.frozenAt z
            obtain ⟨curw, hwb, _⟩ := owns_row hWow
            have nw1 : ¬ wg = rb := fun e => blk_ne hwb R3.blk (by decide) e
            have nw2 : ¬ wg = v.js.getD q 0 := fun e => blk_ne hwb k2 (by decide) e
            have nw1' : ¬ rb = wg := fun e => nw1 e.symm
            have nw2' : ¬ v.js.getD q 0 = wg := fun e => nw2 e.symm
            have hN3 : W3.heap[w.heap.size]? = some (.cells #[.int .i64 0, .int .i64 0, .int .i64 0] 122 (0, 0)) := (hb3.block _ hnl2).trans HX2'.out.2.2
            have o0 : W3.cell? ⟨w.heap.size, 0, none⟩ = some (.int .i64 0) := by rw [blk_cell hN3]; rfl
            have o1 : W3.cell? ⟨w.heap.size, 1, none⟩ = some (.int .i64 0) := by rw [blk_cell hN3]; rfl
            have o2 : W3.cell? ⟨w.heap.size, 2, none⟩ = some (.int .i64 0) := by rw [blk_cell hN3]; rfl
            have of : ∀ z, W3.frozen? ⟨w.heap.size, z, none⟩ = false := fun z => blk_free hN3
            have no1 : ¬ w.heap.size = rb := fun e => blk_ne hN3 R3.blk (by decide) e
            have no2 : ¬ w.heap.size = v.js.getD q 0 := fun e => blk_ne hN3 k2 (by decide) e
            have no3 : ¬ w.heap.size = wg := fun e => blk_ne hN3 hwb (by decide) e
            have no1' : ¬ rb = w.heap.size := fun e => no1 e.symm
            have no2' : ¬ v.js.getD q 0 = w.heap.size := fun e => no2 e.symm
            have no3' : ¬ wg = w.heap.size := fun e => no3 e.symm
            have hwn : IntKind.i64.wrap ((n : Int) - 1) = (q : Int) := by rw [IntKind.wrap_i64]; have := HN.out; omega
            have hwt : IntKind.i64.wrap (((d.jobs.getD q jobM0).tries : Int) + 1) = ((d.jobs.getD q jobM0).tries : Int) + 1 := by rw [IntKind.wrap_i64]; omega
            have mi : (i : Int) < (d.workers.length : Int) := by have := HI.out; omega
            have mqN : (q : Int) < (d.jobs.length : Int) := by omega
            have HX5 : Hid (RD (fun k => F k ∧ k ≠ w.heap.size) ((((((W3.setCell ⟨rb, 6, none⟩ (.slice pa (DeskM.left d.urgent n).length pc)).setCell ⟨v.js.getD q 0, 1, none⟩ (.int .i64 2)).setCell ⟨v.js.getD q 0, 3, none⟩ (.int .i64 (((d.jobs.getD q jobM0).tries : Int) + 1))).setCell ⟨wg, i * 3, none⟩ (.int .i64 (n : Int))).setCell ⟨wg, i * 3 + 1, none⟩ (.int .i64 (d.goods.length : Int))).setCell ⟨wg, i * 3 + 2, none⟩ (.int .i64 0)) rb (d.taken i).1 { v with qv := .slice oa (DeskM.left d.queue n).length oc, uv := .slice pa (DeskM.left d.urgent n).length pc } ∧
                Fr F w ((((((W3.setCell ⟨rb, 6, none⟩ (.slice pa (DeskM.left d.urgent n).length pc)).setCell ⟨v.js.getD q 0, 1, none⟩ (.int .i64 2)).setCell ⟨v.js.getD q 0, 3, none⟩ (.int .i64 (((d.jobs.getD q jobM0).tries : Int) + 1))).setCell ⟨wg, i * 3, none⟩ (.int .i64 (n : Int))).setCell ⟨wg, i * 3 + 1, none⟩ (.int .i64 (d.goods.length : Int))).setCell ⟨wg, i * 3 + 2, none⟩ (.int .i64 0)) ∧ (d.taken i).2 = (1, n, 0)) := by
              have ht := taken_yes (i := i) (HNx.out.trans hqn)
              rw [← hqn] at ht
              obtain ⟨b1, b2⟩ := HX3.out.1.jobCell2 (i := q) (c := 1) (c' := 3) (x := .int .i64 2) (x' := .int .i64 (((d.jobs.getD q jobM0).tries : Int) + 1)) (j1 := { d.jobs.getD q jobM0 with state := 2 }) (j2 := { d.jobs.getD q jobM0 with state := 2, tries := (d.jobs.getD q jobM0).tries + 1 }) hqN rfl rfl rfl rfl rfl rfl
              have hwv' : v.wv = .slice (some ⟨wg, 0, none⟩) d.workers.length wcap := hwv
              have hww := b1.work
              have hww : World.ownsRow _ 0 136 3 v.wv d.workers.length (attCells d.workers) := hww
              rw [hwv'] at hww
              have hown := (((hww.stored (i * 3) (.int .i64 (n : Int))).1.stored (i * 3 + 1) (.int .i64 (d.goods.length : Int))).1.stored (i * 3 + 2) (.int .i64 0)).1
              have ee : (((attCells d.workers).set (i * 3) (.int .i64 (n : Int))).set (i * 3 + 1) (.int .i64 (d.goods.length : Int))).set (i * 3 + 2) (.int .i64 0) = attCells (d.workers.set i ⟨n, d.goods.length, 0⟩) := attCells_set d.workers HI.out ⟨n, d.goods.length, 0⟩
              rw [ee, ← hwv'] at hown
              have hwk : ∀ k, k = wg → v.wv.ownBlock = some k := fun k hk => by rw [hwv', hk]; rfl
              obtain ⟨b3, b4⟩ := b1.setW (ws := d.workers.set i ⟨n, d.goods.length, 0⟩) (by simp) hown ((((Fr.refl _ _).setCell (p := ⟨wg, _, none⟩) (fun _ => hwk wg rfl) _).setCell (p := ⟨wg, _, none⟩) (fun _ => hwk wg rfl) _).setCell (p := ⟨wg, _, none⟩) (fun _ => hwk wg rfl) _)
              rw [ht]
              exact ⟨b3, HX3.out.2.1.trans (b2.trans b4 (fun _ _ h => h)) (fun _ _ h => h.1), rfl⟩
            generalize v.js.getD q 0 = jb at *
            generalize (d.jobs.getD q jobM0).tries = tr at *
            generalize (d.jobs.getD q jobM0).state = st at *
            unfold ptrV at cj
            clear hov hb3 R3 HX3 HX2' hcell hwcell hat k2 hjvv hwv hgv hWow hwb hN3 hqn
            go_wp2
            go_region
            all_goals
              go_wp2
              refine bodyPost_ret (v := .agg #[.int .i64 1, .int .i64 (n : Int), .int .i64 0]) (by simp [results, Tryz.results85, go_sem, o0, o1, o2]) rfl ?_
              rw [HX5.out.2.2]
              first
                | exact (rstep_note (n0 := w.heap.size) HX5.out.1 HX5.out.2.1 (Nat.le_refl _) _ _ _).drew
                | exact rstep_note (n0 := w.heap.size) HX5.out.1 HX5.out.2.1 (Nat.le_refl _) _ _ _
end Go.Proofs.YtlbmcdoldnajoaaGreat
