import Derived.Test.YtlbmcdoldnajoaaGreatLawD
import Derived.Test.YtlbmcdoldnajoaaGreatPNew
set_option maxRecDepth 100000
set_option maxHeartbeats 400000
namespace Go.Proofs.YtlbmcdoldnajoaaGreat
open Go.RowKit
attribute [local go_sem ↓] wStM wStR wLdM wLdR wLdK wStK wLdA wStA wLdG wStG wLdW wStW
theorem forget_len (n : Nat) (l : List KnM) : (forgetK n l).length ≤ l.length := by
  unfold forgetK
  split
  · exact Nat.le_refl _
  · exact List.length_filter_le _ _
theorem rest_facts (p : PM) (i : Nat) : (p.rest i).workers.length = p.workers.length ∧ (p.rest i).known.length ≤ p.known.length ∧ (p.rest i).tasks = p.tasks ∧ ∀ k, ((p.rest i).wk k).ticket = 0 ∨ ((p.rest i).wk k).ticket = (p.wk k).ticket := by
  refine ⟨by simp [PM.rest], forget_len _ _, rfl, fun k => ?_⟩
  show ((p.workers.set i wk0).getD k wk0).ticket = 0 ∨ ((p.workers.set i wk0).getD k wk0).ticket = (p.workers.getD k wk0).ticket
  by_cases e : k = i
  · subst e
    by_cases hk : k < p.workers.length
    · exact Or.inl (by simp [List.getD, hk, wk0])
    · exact Or.inr (by rw [List.set_eq_of_length_le (Nat.le_of_not_lt hk)])
  · exact Or.inr (by simp [List.getD, List.getElem?_set_ne (Ne.symm e)])
theorem release_facts (n : Nat) (p : PM) : ∀ k, (PM.release n p k).workers.length = p.workers.length ∧ (PM.release n p k).known.length ≤ p.known.length ∧ (PM.release n p k).tasks = p.tasks ∧ ∀ i, ((PM.release n p k).wk i).ticket = 0 ∨ ((PM.release n p k).wk i).ticket = (p.wk i).ticket
  | 0 => ⟨rfl, Nat.le_refl _, rfl, fun _ => Or.inr rfl⟩
  | k + 1 => by
    obtain ⟨h1, h2, h3, h4⟩ := release_facts n p k
    have hr := rest_facts (PM.release n p k) k
    unfold PM.release
    simp only
    split
    · refine ⟨hr.1.trans h1, Nat.le_trans hr.2.1 h2, hr.2.2.1.trans h3, fun i => ?_⟩
      rcases hr.2.2.2 i with e | e
      · exact Or.inl e
      · rw [e]; exact h4 i
    · exact ⟨h1, h2, h3, h4⟩
section
variable {o : Nat → Option Nat} {w : World} {b : Nat} {p : PM} {v : PV}
theorem release_any (h : PD o w b p v) (hkl : p.known.length ≤ 1000000000) (hwl : p.workers.length ≤ 1000) (hwt : ∀ i, i < p.workers.length → (p.wk i).ticket ≤ p.tasks.length) (n : Nat) :
    Calls Tryz.prog 64 #[ptrV b, .int .i64 (n : Int)] w fun e w' => Done o w b v (PM.release n p p.workers.length) e w' := by
  have H : Hid (PD o w b p v) := h
  have HB : Hid (p.known.length ≤ 1000000000 ∧ p.workers.length ≤ 1000 ∧ ∀ i, i < p.workers.length → (p.wk i).ticket ≤ p.tasks.length) := ⟨hkl, hwl, hwt⟩
  have c0 := h.cWork
  obtain ⟨N, hN⟩ : ∃ N, N = p.workers.length := ⟨_, rfl⟩
  have HN : Hid (N = p.workers.length) := hN
  rw [← hN] at c0 hwl ⊢
  unfold ptrV
  clear h hkl hwt hN
  go_enter Tryz.func64, Tryz.ntmps64
  go_wp2
  go_loopw [11] (fun x wr => ∃ k : Nat, k ≤ N ∧ x = .int .i64 k ∧ ∃ o1 v1, Now o w b v o1 wr (PM.release n p k) v1) (fun x _ => N - (intOf x).toNat)
  case atStart => exact ⟨0, Nat.zero_le _, rfl, o, v, Now.start H.out⟩
  case round =>
    obtain ⟨k, hk, rfl, o1, v1, hN1⟩ := hrel
    have HN1 : Hid (Now o w b v o1 wr (PM.release n p k) v1) := hN1
    clear hN1
    by_cases hlt : k < N
    · have m1 : (k : Int) < (N : Int) := by omega
      have m0 : (0 : Int) ≤ (k : Int) := by omega
      obtain ⟨q, hq⟩ : ∃ q, q = PM.release n p k := ⟨_, rfl⟩
      have hrf := release_facts n p k
      rw [← hq] at HN1 hrf
      have HQ : Hid (PM.release n p (k + 1) = if (q.wk k).ticket ≠ 0 ∧ (q.wk k).ticket = n then q.rest k else q) := by rw [hq]; rfl
      have hkq : k < q.workers.length := by rw [hrf.1, ← HN.out]; exact hlt
      have HRF : Hid (k < q.workers.length ∧ q.known.length ≤ 1000000000 ∧ q.workers.length ≤ 1000 ∧ (q.wk k).ticket ≤ q.tasks.length) := by
        refine ⟨hkq, by have := HB.out.1; have := hrf.2.1; omega, by rw [hrf.1]; exact HB.out.2.1, ?_⟩
        rw [hrf.2.2.1]
        rcases hrf.2.2.2 k with e | e
        · omega
        · rw [e]; exact HB.out.2.2 k (by rw [← HN.out]; exact hlt)
      have c1 : wr.cell? ⟨b, 41, none⟩ = some (.slice (some ⟨v.wb, 0, none⟩) N N) := by
        have := HN1.out.pd.cWork
        rw [hrf.1, ← HN.out, HN1.out.wb] at this
        exact this
      have cw : wr.cell? ⟨v.wb, k * 74, none⟩ = some (tkO v.ts (q.wk k).ticket) := by
        have := HN1.out.pd.cWkT hkq
        rw [HN1.out.wb, HN1.out.ts] at this
        exact this
      clear hq hrf hkq
      by_cases hz : (q.wk k).ticket = 0
      · rw [hz, show tkO v.ts 0 = .pointer none from rfl] at cw
        go_wp2
        go_roundw
        case rel => exact ⟨k + 1, by omega, by go_num, o1, v1, by rw [HQ.out, if_neg (fun h => h.1 hz)]; exact HN1.out⟩
        case measure => simp [intOf]; omega
      · obtain ⟨m, hm⟩ : ∃ m, m = (q.wk k).ticket := ⟨_, rfl⟩
        have HM : Hid (m = (q.wk k).ticket) := hm
        have hml := HRF.out.2.2.2
        rw [← hm] at cw hz hml
        have ct : wr.cell? ⟨v.ts.getD (m - 1) 0, 0, none⟩ = some (.int .i64 (m : Int)) := by
          have := HN1.out.pd.cTk (i := m - 1) (by omega) 0
          rw [HN1.out.ts] at this
          rw [this]
          show some (natV (m - 1 + 1)) = _
          rw [show m - 1 + 1 = m by omega]
          rfl
        rw [show tkO v.ts m = .pointer (some ⟨v.ts.getD (m - 1) 0, 0, none⟩) by rw [tkO, if_neg hz]; rfl] at cw
        generalize v.ts.getD (m - 1) 0 = tb at cw ct
        clear hm
        by_cases he : m = n
        · have m5 : (m : Int) = (n : Int) := by omega
          rw [m5] at ct
          have hR := rest_any HN1.out.pd HRF.out.1 HRF.out.2.1 HRF.out.2.2.1
          rw [HN1.out.wb] at hR
          unfold ptrV at hR
          go_wp2_with fail
          refine hR.mono ?_
          clear hR
          rintro e W2 ⟨rfl, hs⟩
          have HS : Hid (∃ o2 v2, Now o w b v o2 W2 (PM.release n p (k + 1)) v2) := by
            rw [HQ.out, if_pos ⟨by rw [← HM.out]; exact hz, by rw [← HM.out]; exact he⟩]
            exact HN1.out.stp hs
          clear hs
          go_wp2
          go_roundw
          case rel => exact ⟨k + 1, by omega, by go_num, HS.out⟩
          case measure => simp [intOf]; omega
        · have m5 : ¬ (m : Int) = (n : Int) := by omega
          go_wp2
          go_roundw
          case rel => exact ⟨k + 1, by omega, by go_num, o1, v1, by rw [HQ.out, if_neg (fun h => he (by rw [HM.out]; exact h.2))]; exact HN1.out⟩
          case measure => simp [intOf]; omega
    · obtain rfl : k = N := by omega
      go_wp2
      go_end0
      exact ⟨rfl, HN1.out.done⟩
theorem cancel_pd (h : PD o w b p v) (hF : Fits p) (n : Int) :
    Calls Tryz.prog 35 #[ptrV b, .int .i64 n] w fun e w' => Told1 o w b v (p.cancel n).1 (p.cancel n).2 e w' := by
  have H : Hid (PD o w b p v) := h
  have HF : Hid (Fits p) := hF
  clear hF
  by_cases hn : 1 ≤ n ∧ n ≤ p.tasks.length
  · obtain ⟨j, hj⟩ : ∃ j : Nat, n = (j : Int) + 1 := ⟨(n - 1).toNat, by omega⟩
    have hjl : j < p.tasks.length := by omega
    have hFd := find_yes o w b p v n j H.out (by have := HF.out.tasks; omega) hjl hj
    obtain ⟨tk, htk⟩ : ∃ tk, tk = p.tasks.getD j task0 := ⟨_, rfl⟩
    obtain ⟨tb, htb⟩ : ∃ tb, tb = v.ts.getD j 0 := ⟨_, rfl⟩
    have HTB : Hid (tb = v.ts.getD j 0) := htb
    rw [← htb] at hFd
    have htkb : w.heap[tb]? = some (.cells (taskC j tk (v.sv.getD j nilV) (v.tv.getD j nilV)) 128 (0, 0)) := by rw [htb, htk]; exact H.out.task hjl
    have c1 : w.cell? ⟨tb, 1, none⟩ = some (.int .i64 tk.state) := by rw [blk_cell htkb]; rfl
    have hnn : n = ((j + 1 : Nat) : Int) := by omega
    have hnt : n.toNat = j + 1 := by omega
    have htn : p.task n.toNat = tk := by rw [hnt, PM.task, htk]; rfl
    unfold ptrV at *
    by_cases hs : tk.state ≠ 1 ∧ tk.state ≠ 2
    · have HK : Hid (p.cancel n = (p, 9)) := by
        show _ = _
        unfold PM.cancel
        rw [if_neg (by simpa using hn), htn, if_pos hs]
      obtain ⟨s1, s2⟩ := hs
      clear h hn hj hjl htk htb htkb hnn hnt htn
      go_enter Tryz.func35, Tryz.ntmps35
      go_wp2_with fail
      refine hFd.mono ?_
      clear hFd
      rintro e W1 ⟨rfl, hW⟩
      obtain rfl := hW.symm
      clear hW
      go_wp2
      go_ret
      rw [HK.out]
      exact ⟨rfl, Stp.same H.out (Below.refl _ _)⟩
    · obtain ⟨q, hq⟩ : ∃ q : PM, q = { p with tasks := p.tasks.set j { tk with state := 6, steps := [] } } := ⟨_, rfl⟩
      have HK : Hid (p.cancel n = (PM.release (j + 1) { q with queue := DeskM.left q.queue (j + 1), urgent := DeskM.left q.urgent (j + 1) } p.workers.length, 0) ∧ q.queue = p.queue ∧ q.urgent = p.urgent ∧ q.known = p.known ∧ q.workers = p.workers ∧ q.tasks.length = p.tasks.length) := by
        refine ⟨?_, by rw [hq], by rw [hq], by rw [hq], by rw [hq], by rw [hq]; simp⟩
        unfold PM.cancel
        rw [if_neg (by simpa using hn), htn, if_neg hs]
        simp only
        rw [hnt, show p.setTask (j + 1) { tk with state := 6, steps := [] } = q by rw [hq, PM.setTask, Nat.add_sub_cancel]]
      have HX : Hid (∀ W, W = (w.setCell ⟨tb, 1, none⟩ (.int .i64 6)).setCell ⟨tb, 4, none⟩ nilV → Now o w b v o W q { v with sv := v.sv.set j nilV }) := fun W hW => by
        have a1 := H.out.setTk (i := j) hjl (c := 1) (x := .int .i64 6) (t' := { tk with state := 6 }) (by rw [← htk]; rfl) (by rw [← htk]) (by rw [← htk])
        have e1 : (p.tasks.set j { tk with state := 6 }).getD j task0 = { tk with state := 6 } := by simp [List.getD, hjl]
        have a2 := a1.1.noSteps (i := j) (by simpa using hjl)
        simp only [e1, List.set_set] at a2
        rw [← htb] at a1 a2
        rw [hW, hq]
        exact ((Now.start H.out).step a1 rfl rfl).step a2 rfl rfl
      have HTKB : Hid (w.heap[tb]? = some (.cells (taskC j tk (v.sv.getD j nilV) (v.tv.getD j nilV)) 128 (0, 0))) := htkb
      have hs' : tk.state = 1 ∨ (¬ tk.state = 1 ∧ tk.state = 2) := by
        by_cases e : tk.state = 1
        · exact Or.inl e
        · exact Or.inr ⟨e, by by_cases e2 : tk.state = 2; exact e2; exact absurd ⟨e, e2⟩ hs⟩
      subst hnn
      clear h hn hj hjl htk htb htkb hnt htn hs hq
      rcases hs' with s1 | ⟨s0, s1⟩
      all_goals
        go_enter Tryz.func35, Tryz.ntmps35
        go_wp2_with fail
        refine hFd.mono ?_
        clear hFd
        rintro e W1 ⟨rfl, hW⟩
        obtain rfl := hW.symm
        clear hW
        go_wp2_with fail
        refine (end_task tb _ 6 HTKB.out rfl).mono ?_
        rintro e W2 ⟨rfl, hW2⟩
        obtain ⟨v2, hv2⟩ : ∃ v2 : PV, v2 = { v with sv := v.sv.set j nilV } := ⟨_, rfl⟩
        have HN2 : Hid (Now o w b v o W2 q v2) := by rw [hv2]; exact HX.out _ hW2
        have hqv : v2.qv = v.qv ∧ v2.uv = v.uv := by rw [hv2]; exact ⟨rfl, rfl⟩
        clear hW2 hv2 HX HTKB c1
        obtain ⟨qa, qc, hqf⟩ := owns_form (HN2.out.pd.queue nX).1
        have c39 := HN2.out.pd.cQueue
        rw [hqf] at c39
        have hWq := withoutQ HN2.out (by rw [HK.out.2.1, HK.out.2.2.2.2.2]; exact HF.out.queue.2) (by rw [HK.out.2.1]; exact HF.out.queue.1) (j + 1)
        rw [hqf] at hWq
        have HQF : Hid (v2.qv = .slice qa q.queue.length qc) := hqf
        clear hqf hqv
        generalize q.queue.length = L at c39 hWq HQF
        go_wp2_with fail
        refine hWq.mono ?_
        clear hWq c39
        rintro e X3 ⟨ra, m, rc, rfl, k1, k2, k3⟩
        rw [HQF.out] at k1
        have HN3 : Hid (∃ o2 v2, Now o w b v o2 (X3.setCell ⟨b, 39, none⟩ (.slice ra m rc)) { q with queue := DeskM.left q.queue (j + 1) } v2) := k3
        clear k3 HN2
        obtain ⟨o3, v3, hN3⟩ := HN3.out
        obtain ⟨q3, hq3⟩ : ∃ q3 : PM, q3 = { q with queue := DeskM.left q.queue (j + 1) } := ⟨_, rfl⟩
        rw [← hq3] at hN3
        have HQ3 : Hid (q3.urgent = p.urgent ∧ q3.known = p.known ∧ q3.workers = p.workers ∧ q3.tasks.length = p.tasks.length ∧ { q3 with urgent := DeskM.left q3.urgent (j + 1) } = { q with queue := DeskM.left q.queue (j + 1), urgent := DeskM.left q.urgent (j + 1) }) := by subst hq3; exact ⟨HK.out.2.2.1, HK.out.2.2.2.1, HK.out.2.2.2.2.1, HK.out.2.2.2.2.2, rfl⟩
        have HN3' : Hid (Now o w b v o3 (X3.setCell ⟨b, 39, none⟩ (.slice ra m rc)) q3 v3) := hN3
        clear hN3 HN3 hq3
        obtain ⟨ua, uc, huf⟩ := owns_form (HN3'.out.pd.urg nX).1
        have hc40 := HN3'.out.pd.cUrg
        rw [huf] at hc40
        have hWu := withoutU HN3'.out (by rw [HQ3.out.1, HQ3.out.2.2.2.1]; exact HF.out.urg.2) (by rw [HQ3.out.1]; exact HF.out.urg.1) (j + 1)
        rw [huf] at hWu
        have HUF : Hid (v3.uv = .slice ua q3.urgent.length uc) := huf
        clear huf
        generalize q3.urgent.length = M at hc40 hWu HUF
        have c40 : X3.cell? ⟨b, 40, none⟩ = some (.slice ua M uc) := by
          rw [World.cell?_setCell_other _ _ _ _ (by intro e; injection e with e1 e2; omega)] at hc40
          exact hc40
        clear hc40
        go_wp2_with fail
        refine hWu.mono ?_
        clear hWu c40 k1 k2
        rintro e X4 ⟨ra4, m4, rc4, rfl, k1, k2, k3⟩
        rw [HUF.out] at k1
        have HN4 : Hid (∃ o2 v2, Now o w b v o2 (X4.setCell ⟨b, 40, none⟩ (.slice ra4 m4 rc4)) { q3 with urgent := DeskM.left q3.urgent (j + 1) } v2) := k3
        clear k3 HN3'
        obtain ⟨o4, v4, hN4⟩ := HN4.out
        obtain ⟨q4, hq4⟩ : ∃ q4 : PM, q4 = { q3 with urgent := DeskM.left q3.urgent (j + 1) } := ⟨_, rfl⟩
        rw [← hq4] at hN4
        have HN4' : Hid (Now o w b v o4 (X4.setCell ⟨b, 40, none⟩ (.slice ra4 m4 rc4)) q4 v4) := hN4
        have HQ4 : Hid (q4.known = p.known ∧ q4.workers = p.workers ∧ q4.tasks.length = p.tasks.length ∧ p.cancel ((j + 1 : Nat) : Int) = (PM.release (j + 1) q4 q4.workers.length, 0)) := by
          have e4 : q4.workers = p.workers := by subst hq4; exact HQ3.out.2.2.1
          refine ⟨by subst hq4; exact HQ3.out.2.1, e4, by subst hq4; exact HQ3.out.2.2.2.1, ?_⟩
          rw [HK.out.1, e4, hq4, HQ3.out.2.2.2.2]
        clear hN4 HN4 hq4
        have hRl := release_any HN4'.out.pd (by rw [HQ4.out.1]; have := HF.out.known; omega) (by rw [HQ4.out.2.1]; exact HF.out.wks) (fun i hi => by rw [HQ4.out.2.1] at hi; rw [HQ4.out.2.2.1, PM.wk, HQ4.out.2.1]; exact HF.out.wk i hi) (j + 1)
        unfold ptrV at hRl
        go_wp2_with fail
        refine hRl.mono ?_
        clear hRl
        rintro e X5 ⟨rfl, hs5⟩
        have HS : Hid (Stp o w b v.ts v.wb (PM.release (j + 1) q4 q4.workers.length) X5) := by
          obtain ⟨o5, v5, h5⟩ := HN4'.out.stp hs5
          exact h5.done
        clear hs5
        go_wp2
        go_ret
        rw [HQ4.out.2.2.2]
        exact ⟨rfl, HS.out⟩
  · have HK : Hid (p.cancel n = (p, 8)) := by
      show _ = _
      unfold PM.cancel
      rw [if_pos (by simpa using hn)]
    have hFd := find_no o w b p v n H.out hn
    unfold ptrV at *
    clear h hn
    go_enter Tryz.func35, Tryz.ntmps35
    go_wp2_with fail
    refine hFd.mono ?_
    clear hFd
    rintro e W1 ⟨rfl, hW⟩
    obtain rfl := hW.symm
    clear hW
    go_wp2
    go_ret
    rw [HK.out]
    exact ⟨rfl, Stp.same H.out (Below.refl _ _)⟩
end
end Go.Proofs.YtlbmcdoldnajoaaGreat
