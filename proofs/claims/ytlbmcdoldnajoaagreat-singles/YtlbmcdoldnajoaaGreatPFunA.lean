import Derived.Test.YtlbmcdoldnajoaaGreatPUpd
set_option maxRecDepth 100000
set_option maxHeartbeats 400000
namespace Go.Proofs.YtlbmcdoldnajoaaGreat
open Go.RowKit
attribute [local go_sem ↓] wStM wStR wLdM wLdR wLdK wStK wLdA wStA wLdG wStG wLdW wStW
section
variable {o : Nat → Option Nat} {w : World} {b : Nat} {p : PM} {v : PV}
theorem worker_no (h : PD o w b p v) (n : Int) (hn : ¬ (0 ≤ n ∧ n < p.workers.length)) :
    Calls Tryz.prog 66 #[ptrV b, .int .i64 n] w fun e w' => e = .returned (.pointer none) ∧ w' = w := by
  have c := h.cWork
  generalize p.workers.length = N at c hn
  unfold ptrV
  have hin : n < 0 ∨ (¬ n < 0 ∧ (N : Int) ≤ n) := by omega
  clear h hn
  rcases hin with q | ⟨q, q2⟩
  all_goals
    go_enter Tryz.func66, Tryz.ntmps66
    go_wp2
    go_ret
    exact ⟨rfl, rfl⟩
theorem worker_yes (h : PD o w b p v) {i : Nat} (hi : i < p.workers.length) :
    Calls Tryz.prog 66 #[ptrV b, .int .i64 (i : Int)] w fun e w' => e = .returned (.pointer (some ⟨v.wb, i * 74, none⟩)) ∧ w' = w := by
  have c := h.cWork
  generalize p.workers.length = N at c hi
  unfold ptrV
  have q1 : ¬ (i : Int) < 0 := by omega
  have q2 : ¬ (N : Int) ≤ (i : Int) := by omega
  have q3 : (i : Int) < (N : Int) := by omega
  clear h
  go_enter Tryz.func66, Tryz.ntmps66
  go_wp2
  go_ret
  exact ⟨rfl, rfl⟩
theorem isUrgent_any (h : PD o w b p v) {i : Nat} (hi : i < p.tasks.length) :
    Calls Tryz.prog 67 #[ptrV b, ptrV (v.ts.getD i 0)] w fun e w' => GaveB (p.isUrgent (i + 1)) w e w' := by
  have c0 := h.cCP
  have c1 : w.cell? ⟨v.ts.getD i 0, 3, none⟩ = some (.int .i64 ((p.tasks.getD i task0).failed : Int)) := h.cTk hi 3
  have HE : Hid (p.isUrgent (i + 1) = decide (p.c.patience < (p.tasks.getD i task0).failed)) := by show _ = _; simp [PM.isUrgent, PM.task]
  generalize v.ts.getD i 0 = tb at *
  generalize (p.tasks.getD i task0).failed = fl at *
  unfold ptrV
  clear h
  go_enter Tryz.func67, Tryz.ntmps67
  go_wp2
  go_region
  all_goals
    go_wp2
    go_ret
    exact ⟨by rw [HE.out]; simp, (Below.refl _ _).drew⟩
theorem count_pd (h : PD o w b p v) :
    Calls Tryz.prog 87 #[.pointer (some ⟨b, 36, none⟩)] w fun e w' => e = .returned (.int .i64 (p.count : Int)) ∧ w' = w := by
  have c := h.cCount
  clear h
  go_enter Tryz.func87, Tryz.ntmps87
  go_wp2
  go_ret
  exact ⟨rfl, rfl⟩
theorem PD.hist (h : PD o w b p v) : HistAt w b 36 v.kv p.known := ⟨h.cKnown, h.lt, (h.known nX).1, h.kl⟩
theorem partner_any (h : PD o w b p v) (t : AtM) (ht : t.ok) (hl : p.known.length ≤ 1000000000) :
    Calls Tryz.prog 102 #[.pointer (some ⟨b, 36, none⟩), .agg (atC t).toArray] w fun e w' => GaveN (partnerK t p.known) w e w' := by
  have H : Hid (HistAt w b 36 v.kv p.known) := h.hist
  have HL : Hid (p.known.length ≤ 1000000000) := hl
  obtain ⟨ca, hca⟩ : ∃ ca, ca = (atC t).toArray := ⟨_, rfl⟩
  have HCA : Hid (ca = (atC t).toArray) := hca
  rw [← hca]
  clear hca h hl
  go_enter Tryz.func102, Tryz.ntmps102
  go_wp2
  have HT0 : Hid (AtBlk (w.alloc (.cells ca 163)) w.heap.size t ∧ Below w.heap.size w (w.alloc (.cells ca 163))) := ⟨by rw [HCA.out]; exact heap_alloc_new _ _, (Below.refl _ _).alloc (Nat.le_refl _) _⟩
  generalize w.alloc (.cells ca 163) = W0 at HT0 ⊢
  refine wp_ldN (T := 163) w.heap.size 0 (by rfl) (by rfl) (by exact HT0.out.1.at) (by exact Tryz.underlying163) (by rfl) (by rw [Tryz.sizeA, atC_len ht]) ?_
  go_wp2_with fail
  refine (clash_any W0 b 36 v.kv p.known t (H.out.below HT0.out.2) ht HL.out).mono ?_
  rintro e W1 ⟨rfl, hb1⟩
  have HT1 : Hid (AtBlk W1 w.heap.size t ∧ Below w.heap.size w W1) := ⟨(hb1.block _ (blk_lt HT0.out.1)).trans HT0.out.1, HT0.out.2.trans (hb1.mono HT0.out.2.size)⟩
  clear hb1
  by_cases hc : clashK t p.known 0 = 0
  · have hc' : (clashK t p.known 0 : Int) = 0 := by omega
    have HE : Hid (partnerK t p.known = if pivotK t p.known 0 ≠ 0 then pivotK t p.known 0 else outerK t p.known) := by show _ = _; simp [partnerK, hc]
    rw [hc]
    go_wp2
    refine wp_ldN (T := 163) w.heap.size 0 (by rfl) (by rfl) (by exact HT1.out.1.at) (by exact Tryz.underlying163) (by rfl) (by rw [Tryz.sizeA, atC_len ht]) ?_
    go_wp2_with fail
    refine (pivot_any W1 b 36 v.kv p.known t (H.out.below HT1.out.2) ht HL.out).mono ?_
    rintro e W2 ⟨rfl, hb2⟩
    have HT2 : Hid (AtBlk W2 w.heap.size t ∧ Below w.heap.size w W2) := ⟨(hb2.block _ (blk_lt HT1.out.1)).trans HT1.out.1, HT1.out.2.trans (hb2.mono HT1.out.2.size)⟩
    clear hb2
    by_cases hp : pivotK t p.known 0 = 0
    · have HE2 : Hid (partnerK t p.known = outerK t p.known) := by show _ = _; rw [HE.out]; simp [hp]
      rw [hp]
      go_wp2
      refine wp_ldN (T := 163) w.heap.size 0 (by rfl) (by rfl) (by exact HT2.out.1.at) (by exact Tryz.underlying163) (by rfl) (by rw [Tryz.sizeA, atC_len ht]) ?_
      go_wp2_with fail
      refine (outer_any W2 b 36 v.kv p.known t (H.out.below HT2.out.2) ht HL.out).mono ?_
      rintro e W3 ⟨rfl, hb3⟩
      have HT3 : Hid (Below w.heap.size w W3) := HT2.out.2.trans (hb3.mono HT2.out.2.size)
      clear hb3
      go_wp2
      go_ret
      exact ⟨by rw [HE2.out]; rfl, HT3.out⟩
    · have hp' : ¬ (pivotK t p.known 0 : Int) = 0 := by omega
      have HE2 : Hid (partnerK t p.known = pivotK t p.known 0) := by show _ = _; rw [HE.out]; simp [hp]
      go_wp2
      go_ret
      exact ⟨by rw [HE2.out]; rfl, HT2.out.2⟩
  · have hc' : ¬ (clashK t p.known 0 : Int) = 0 := by omega
    have HE : Hid (partnerK t p.known = clashK t p.known 0) := by show _ = _; simp [partnerK, hc]
    go_wp2
    go_ret
    exact ⟨by rw [HE.out]; rfl, HT1.out.2⟩
theorem tk_row {w : World} {g cap : Nat} {ts l : List Nat} (h : w.ownsRow 0 125 1 (.slice (some ⟨g, 0, none⟩) l.length cap) l.length (l.map (tkV ts))) {j : Nat} (hj : j < l.length) : w.cell? ⟨g, j, none⟩ = some (tkV ts (l.getD j 0)) := by
  have := h.cellAt j (by omega)
  rw [this]
  simp [List.getD, hj]
def wcnt (p : PM) (j : Nat) : Nat := ((p.urgent.take j).filter fun n => decide ((p.task n).state = 1)).length
theorem wcnt_le (p : PM) (j : Nat) : wcnt p j ≤ j := by
  have h1 := List.length_filter_le (fun n => decide ((p.task n).state = 1)) (p.urgent.take j)
  have h2 : (p.urgent.take j).length ≤ j := by simp; omega
  unfold wcnt; omega
theorem wcnt_succ (p : PM) {j : Nat} (hj : j < p.urgent.length) : wcnt p (j + 1) = wcnt p j + if (p.task (p.urgent.getD j 0)).state = 1 then 1 else 0 := by
  unfold wcnt
  have e : p.urgent.getD j 0 = p.urgent[j] := by simp [List.getD, hj]
  rw [List.take_succ_eq_append_getElem hj, List.filter_append, List.length_append, e]
  by_cases h : (p.task p.urgent[j]).state = 1
  · rw [if_pos h]; simp [h]
  · rw [if_neg h]; simp [h]
theorem waiting_any (h : PD o w b p v) (hu : ∀ n ∈ p.urgent, 1 ≤ n ∧ n ≤ p.tasks.length) (hl : p.urgent.length ≤ 1000000000) (hq : p.queue.length ≤ 1000000000) :
    Calls Tryz.prog 82 #[ptrV b] w fun e w' => e = .returned (.int .i64 (p.waiting : Int)) ∧ w' = w := by
  have H : Hid (PD o w b p v) := h
  obtain ⟨qa, qc, hqv⟩ := owns_form (h.queue nX).1
  obtain ⟨ua, uc, huv⟩ := owns_form (h.urg nX).1
  have c0 := h.cQueue
  have c1 := h.cUrg
  rw [hqv] at c0
  rw [huv] at c1
  have HU : Hid (∀ n ∈ p.urgent, 1 ≤ n ∧ n ≤ p.tasks.length) := hu
  have HUV : Hid (v.uv = .slice ua p.urgent.length uc) := huv
  obtain ⟨n, hn⟩ : ∃ n, n = p.urgent.length := ⟨_, rfl⟩
  have HN : Hid (n = p.urgent.length) := hn
  rw [← hn] at c1 hl
  obtain ⟨m, hm⟩ : ∃ m, m = p.queue.length := ⟨_, rfl⟩
  have HQ : Hid (m = p.queue.length) := hm
  rw [← hm] at c0 hq
  unfold ptrV
  clear h hqv huv hu hn hm
  go_enter Tryz.func82, Tryz.ntmps82
  go_wp2
  go_loop [3, 16] (fun c i => ∃ j : Nat, j ≤ n ∧ i = .int .i64 j ∧ c = .int .i64 ((m : Int) + (wcnt p j : Int))) (fun _ i => n - (intOf i).toNat)
  case atStart => exact ⟨0, Nat.zero_le _, rfl, by simp [wcnt]⟩
  case round =>
    obtain ⟨j, hj, rfl, rfl⟩ := hrel
    by_cases hlt : j < n
    · have hjl : j < p.urgent.length := by rw [← HN.out]; exact hlt
      have hw := wcnt_le p j
      have HWS : Hid (wcnt p (j + 1) = wcnt p j + if (p.task (p.urgent.getD j 0)).state = 1 then 1 else 0) := wcnt_succ p hjl
      have hrow := (H.out.urg nX).1
      rw [HUV.out] at hrow
      obtain ⟨g, hv1⟩ : ∃ g, ua = some ⟨g, 0, none⟩ := by
        obtain ⟨g, cap, hv, _, _⟩ := owns_pos hrow (by omega)
        injection hv with hv1
        exact ⟨g, hv1⟩
      subst hv1
      have cp := tk_row hrow hjl
      obtain ⟨un, hun⟩ : ∃ un, un = p.urgent.getD j 0 := ⟨_, rfl⟩
      have hmem : un ∈ p.urgent := by rw [hun]; simp [List.getD, hjl]
      obtain ⟨u1, u2⟩ := HU.out un hmem
      rw [← hun] at cp HWS
      have ct : w.cell? ⟨v.ts.getD (un - 1) 0, 1, none⟩ = some (.int .i64 (p.task un).state) := H.out.cTk (i := un - 1) (by omega) 1
      unfold tkV ptrV at cp
      generalize v.ts.getD (un - 1) 0 = tb at cp ct
      have m1 : (j : Int) < (n : Int) := by omega
      clear hun hrow
      generalize wcnt p j = c at *
      have hwr : IntKind.i64.wrap ((m : Int) + (c : Int) + 1) = (m : Int) + (c : Int) + 1 := by rw [IntKind.wrap_i64]; omega
      by_cases hs : (p.task un).state = 1
      · rw [hs] at ct
        go_wp2
        go_round
        case rel => exact ⟨j + 1, by omega, by go_num, by rw [HWS.out, if_pos hs]; go_num⟩
        case measure => simp [intOf]; omega
      · go_wp2
        go_round
        case rel => exact ⟨j + 1, by omega, by go_num, by rw [HWS.out, if_neg hs]; rfl⟩
        case measure => simp [intOf]; omega
    · obtain rfl : j = n := by omega
      have HZ : Hid ((p.waiting : Int) = (m : Int) + (wcnt p j : Int)) := by show _ = _; rw [PM.waiting, HQ.out, wcnt, HN.out, List.take_length]; omega
      go_wp2
      go_ret
      exact ⟨by rw [HZ.out]; rfl, rfl⟩
theorem wkC_one (ts : List Nat) (a : WkM) {tv : Value} (ht : ∃ ao n cap, tv = .slice ao n cap) : (wkC ts a tv).toArray.all (·.oneCell') = true := by
  have h1 := Array.all_eq_true_iff_forall_mem.1 (engCells_one a.st a.x (see a.m a.x.puts) ht)
  refine all_oneCell_toArray (fun v hv => ?_)
  simp only [wkC, List.mem_cons] at hv
  rcases hv with rfl | rfl | hv
  · unfold tkO tkV ptrV; split <;> rfl
  · rfl
  · exact h1 v (by simpa using hv)
theorem idle_succ (p : PM) {j : Nat} (hj : j < p.workers.length) : ((p.workers.take (j + 1)).all fun a => decide (a.ticket = 0)) = (((p.workers.take j).all fun a => decide (a.ticket = 0)) && decide ((p.wk j).ticket = 0)) := by
  rw [List.take_succ_eq_append_getElem hj, List.all_append]
  simp [PM.wk, List.getD, hj]
theorem allIdle_any (h : PD o w b p v) (hl : p.workers.length ≤ 1000) :
    Calls Tryz.prog 100 #[ptrV b] w fun e w' => GaveB p.allIdle w e w' := by
  have H : Hid (PD o w b p v) := h
  have c0 := h.cWork
  obtain ⟨n, hn⟩ : ∃ n, n = p.workers.length := ⟨_, rfl⟩
  have HN : Hid (n = p.workers.length) := hn
  rw [← hn] at c0 hl
  unfold ptrV
  clear h hn
  go_enter Tryz.func100, Tryz.ntmps100
  go_wp2
  go_loopw [10] (fun i wr => ∃ j : Nat, j ≤ n ∧ i = .int .i64 j ∧ ((p.workers.take j).all fun a => decide (a.ticket = 0)) = true ∧ Below w.heap.size w wr) (fun i _ => n - (intOf i).toNat)
  case atStart => exact ⟨0, Nat.zero_le _, rfl, by simp, Below.refl _ _⟩
  case round =>
    obtain ⟨j, hj, rfl, hk1, hk2⟩ := hrel
    have HR : Hid (((p.workers.take j).all fun a => decide (a.ticket = 0)) = true ∧ Below w.heap.size w wr) := ⟨hk1, hk2⟩
    clear hk1 hk2
    by_cases hlt : j < n
    · have hjl : j < p.workers.length := by rw [← HN.out]; exact hlt
      have m1 : (j : Int) < (n : Int) := by omega
      have m0 : (0 : Int) ≤ (j : Int) := by omega
      obtain ⟨a, ha⟩ : ∃ a, a = p.wk j := ⟨_, rfl⟩
      have hok : a.ok := by rw [ha]; exact H.out.wkOk hjl
      obtain ⟨cl, hcl⟩ : ∃ cl, cl = wkC v.ts a (v.rt.getD j nilV) := ⟨_, rfl⟩
      have HCL : Hid (cl.length = 74 ∧ cl.toArray.all (·.oneCell') = true ∧ cl[0]? = some (tkO v.ts a.ticket) ∧ cl[1]? = some (.int .i64 (a.beg : Int))) := by
        rw [hcl]
        exact ⟨wkC_len _ hok _, wkC_one _ _ (by obtain ⟨ao, cap, h⟩ := owns_form (H.out.rtold j hjl nX).1; exact ⟨_, _, _, h⟩), rfl, rfl⟩
      have HE : Hid (wr.rangeAt v.wb (j * 74) cl) := by
        have := (H.out.below HR.out.2).wrange hjl
        rw [hcl, ha]
        exact this
      have HA : Hid (a = p.wk j) := ha
      clear ha hcl
      go_wp2
      refine wp_ldN (T := 140) v.wb (j * 74) (by rfl) (by rfl) (by exact HE.out) (by exact Tryz.underlying140) (by rfl) (by rw [Tryz.sizeW, HCL.out.1]) ?_
      obtain ⟨cu, hcu⟩ : ∃ cu, cu = cl.toArray := ⟨_, rfl⟩
      have HCU : Hid (cu = cl.toArray) := hcu
      rw [← hcu]
      clear hcu
      go_wp2
      refine wp_stN (T := 140) wr.heap.size (by rfl) (by rfl) (by rfl) (by exact heap_alloc_new _ _) (by rw [HCU.out, Tryz.sizeW]; simp [HCL.out.1]) (by rw [HCU.out]; simp [HCL.out.1]) (by rw [HCU.out]; exact HCL.out.2.1) ?_
      rintro W1 hW1 hF1
      have c2 : W1.cell? ⟨wr.heap.size, 0, none⟩ = some (tkO v.ts a.ticket) := by rw [blk_cell hW1, HCU.out, List.getElem?_toArray]; exact HCL.out.2.2.1
      have c3 : W1.cell? ⟨wr.heap.size, 1, none⟩ = some (.int .i64 (a.beg : Int)) := by rw [blk_cell hW1, HCU.out, List.getElem?_toArray]; exact HCL.out.2.2.2
      have HB1 : Hid (Below w.heap.size w W1) := by
        have hs := HR.out.2.size
        exact (HR.out.2).trans (((Below.refl _ wr).alloc hs _).trans (hF1.below (by omega) (by simp; omega)))
      clear hW1 hF1
      by_cases hz : a.ticket = 0
      · have e0 : tkO v.ts a.ticket = .pointer none := by rw [tkO, if_pos hz]
        rw [e0] at c2
        go_wp2
        go_roundw
        case rel => exact ⟨j + 1, by omega, by go_num, by rw [idle_succ p (by rw [← HN.out]; exact hlt), HR.out.1, ← HA.out]; simp [hz], HB1.out⟩
        case measure => simp [intOf]; omega
      · have e0 : tkO v.ts a.ticket = .pointer (some ⟨v.ts.getD (a.ticket - 1) 0, 0, none⟩) := by rw [tkO, if_neg hz]; rfl
        rw [e0] at c2
        have HZ : Hid (p.allIdle = false) := by
          show _ = _
          rw [PM.allIdle, List.all_eq_false]
          exact ⟨a, by rw [HA.out]; simp [PM.wk, List.getD, hjl], by simpa using hz⟩
        go_wp2
        go_ret
        exact ⟨by rw [HZ.out]; rfl, HB1.out⟩
    · obtain rfl : j = n := by omega
      have HZ : Hid (p.allIdle = true) := by show _ = _; have := HR.out.1; rw [HN.out, List.take_length] at this; exact this
      go_wp2
      go_ret
      exact ⟨by rw [HZ.out]; rfl, HR.out.2⟩
def GaveT (ts : List Nat) (n : Nat) (w : World) (e : Ending) (w' : World) : Prop := e = .returned (tkO ts n) ∧ Below w.heap.size w w'
theorem next_pd (h : PD o w b p v) (hl : p.workers.length ≤ 1000) (hu : ∀ n ∈ p.urgent, n ≠ 0) (hq : ∀ n ∈ p.queue, n ≠ 0) (hul : p.urgent.length ≤ 1000000000) (hql : p.queue.length ≤ 1000000000) :
    Calls Tryz.prog 92 #[ptrV b] w fun e w' => GaveT v.ts p.next w e w' := by
  have H : Hid (PD o w b p v) := h
  have HL : Hid (p.workers.length ≤ 1000) := hl
  obtain ⟨qa, qc, hqv⟩ := owns_form (h.queue nX).1
  obtain ⟨ua, uc, huv⟩ := owns_form (h.urg nX).1
  have c0 := h.cQueue
  have c1 := h.cUrg
  have r0 := (h.queue nX).1
  have r1 := (h.urg nX).1
  rw [hqv] at c0 r0
  rw [huv] at c1 r1
  have hlt := h.lt
  by_cases hU : p.urgent = []
  · have hun : p.urgent.length = 0 := by rw [hU]; rfl
    rw [hun] at c1
    by_cases hQ : p.queue = []
    · have hqn : p.queue.length = 0 := by rw [hQ]; rfl
      rw [hqn] at c0
      have HZ : Hid (p.next = 0) := by show _ = _; simp [PM.next, hU, hQ]
      unfold ptrV
      clear h r0 r1 hqv huv hu hq
      go_enter Tryz.func92, Tryz.ntmps92
      go_wp2
      go_ret
      exact ⟨by rw [HZ.out]; rfl, Below.refl _ _⟩
    · have hql0 : 0 < p.queue.length := List.length_pos_iff.2 hQ
      obtain ⟨g, hv1⟩ : ∃ g, qa = some ⟨g, 0, none⟩ := by
        obtain ⟨g, cap, hv, _, _⟩ := owns_pos r0 hql0
        injection hv with hv1
        exact ⟨g, hv1⟩
      subst hv1
      have cp := tk_row r0 hql0
      have HZ : Hid (p.next = p.queue.getD 0 0 ∧ p.queue.getD 0 0 ≠ 0) := by
        refine ⟨by simp [PM.next, hU], hq _ ?_⟩
        simp [List.getD, hql0]
      generalize p.queue.getD 0 0 = qn at *
      have m1 : (0 : Int) < (p.queue.length : Int) := by omega
      obtain ⟨n, hn⟩ : ∃ n, n = p.queue.length := ⟨_, rfl⟩
      rw [← hn] at c0 m1 hql
      have HT : Hid (∀ W : World, Below w.heap.size w W → GaveT v.ts p.next w (.returned (.pointer (some ⟨v.ts.getD (qn - 1) 0, 0, none⟩))) W) := fun W hW => ⟨by rw [HZ.out.1, tkO, if_neg HZ.out.2]; rfl, hW⟩
      unfold tkV ptrV at *
      generalize v.ts.getD (qn - 1) 0 = tb at cp HT
      clear h r0 r1 hqv huv hu hq hn
      go_enter Tryz.func92, Tryz.ntmps92
      go_wp2
      go_ret
      exact HT.out _ (Below.refl _ _)
  · have hul0 : 0 < p.urgent.length := List.length_pos_iff.2 hU
    obtain ⟨g, hv1⟩ : ∃ g, ua = some ⟨g, 0, none⟩ := by
      obtain ⟨g, cap, hv, _, _⟩ := owns_pos r1 hul0
      injection hv with hv1
      exact ⟨g, hv1⟩
    subst hv1
    have hg : g < w.heap.size := by
      obtain ⟨g', cap, hv, hg, _⟩ := owns_pos r1 hul0
      injection hv with hv1
      injection hv1 with hv1
      injection hv1 with hv1
      omega
    have cp := tk_row r1 hul0
    have HZ : Hid (p.next = (if p.allIdle then p.urgent.getD 0 0 else 0) ∧ p.urgent.getD 0 0 ≠ 0) := by
      refine ⟨by simp [PM.next, hU], hu _ ?_⟩
      simp [List.getD, hul0]
    generalize p.urgent.getD 0 0 = qn at *
    have m1 : (0 : Int) < (p.urgent.length : Int) := by omega
    obtain ⟨n, hn⟩ : ∃ n, n = p.urgent.length := ⟨_, rfl⟩
    rw [← hn] at c1 m1 hul
    have HT : Hid (p.allIdle = true → ∀ W : World, Below w.heap.size w W → GaveT v.ts p.next w (.returned (.pointer (some ⟨v.ts.getD (qn - 1) 0, 0, none⟩))) W) := fun hi W hW => ⟨by rw [HZ.out.1, hi, if_pos rfl, tkO, if_neg HZ.out.2]; rfl, hW⟩
    unfold tkV ptrV at cp
    generalize v.ts.getD (qn - 1) 0 = tb at cp HT
    unfold ptrV
    clear h r0 r1 hqv huv hu hq hn
    go_enter Tryz.func92, Tryz.ntmps92
    go_wp2_with fail
    refine (allIdle_any H.out HL.out).mono ?_
    rintro e W1 ⟨rfl, hb1⟩
    have c1' := (hb1.cell (p := ⟨b, 40, none⟩) hlt).trans c1
    have cp' := (hb1.cell (p := ⟨g, 0, none⟩) hg).trans cp
    have HB1 : Hid (Below w.heap.size w W1) := hb1
    clear hb1 c1 cp
    cases hid : p.allIdle
    · have HZ2 : Hid (p.next = 0) := by show _ = _; rw [HZ.out.1, hid]; rfl
      go_wp2
      go_ret
      exact ⟨by rw [HZ2.out]; rfl, HB1.out⟩
    · go_wp2
      go_ret
      exact HT.out hid _ HB1.out
end
end Go.Proofs.YtlbmcdoldnajoaaGreat
