import Derived.Test.YtlbmcdoldnajoabKRun

namespace Go.Proofs.Ytlbmcdoldnajoab
open Go.RowKit
/-- of no great size -/
structure RSm (R : RM) : Prop where
  tasks : R.tasks.length ≤ 900000000
  order : R.order.length ≤ 900000000
  at_ : R.at_.length ≤ 1000
section
variable {o : Nat → Option Nat} {w : World} {b : Nat} {R : RM} {v : KV}
/-- a row of pointers; a row of numbers -/
theorem ptr_row {w : World} {e : TypeId} {g cap : Nat} {l : List Nat} {N : Nat} (h : w.ownsRow 0 e 1 (.slice (some ⟨g, 0, none⟩) N cap) N (l.map ptrV)) {j : Nat} (hj : j < l.length) (hN : N = l.length) : w.cell? ⟨g, j, none⟩ = some (.pointer (some ⟨l.getD j 0, 0, none⟩)) := by
  have := h.cellAt j (by omega)
  rw [this]
  simp [List.getD, hj, ptrV]
theorem nat_row {w : World} {e : TypeId} {g cap : Nat} {l : List Nat} {N : Nat} (h : w.ownsRow 0 e 1 (.slice (some ⟨g, 0, none⟩) N cap) N (l.map natV)) {j : Nat} (hj : j < l.length) (hN : N = l.length) : w.cell? ⟨g, j, none⟩ = some (.int .i64 (l.getD j 0 : Int)) := by
  have := h.cellAt j (by omega)
  rw [this]
  simp [List.getD, hj, natV]
theorem owns_blk {w : World} {e : TypeId} {ao : Option Addr} {n cap : Nat} {s : Nat} {xs : List Value} (h : w.ownsRow 0 e s (.slice ao n cap) n xs) (hn : 0 < n) : ∃ g, ao = some ⟨g, 0, none⟩ := by
  obtain ⟨g, cap, hv, _, _⟩ := owns_pos h hn
  injection hv with hv1
  exact ⟨g, hv1⟩
set_option maxRecDepth 100000 in
set_option maxHeartbeats 400000 in
theorem open_q (h : KP o w b R v) (hS : RSm R) :
    Calls Try.prog 35 #[ptrV b] w fun e w' => e = .returned (.int .i64 R.openI) ∧ ∃ m, w' = w.drewN m := by
  have H : Hid (KP o w b R v) := h
  obtain ⟨ta, tc, htv⟩ := owns_form (h.tasks nX).1
  obtain ⟨oa, oc, hov⟩ := owns_form (h.order nX).1
  have c5 : w.cell? ⟨b, 5, none⟩ = some v.tv := h.cell 5
  have c6 : w.cell? ⟨b, 6, none⟩ = some v.ov := h.cell 6
  rw [htv] at c5
  rw [hov] at c6
  have hrow := (h.tasks nX).1
  rw [htv] at hrow
  have HRow : Hid (w.ownsRow 0 57 1 (.slice ta R.tasks.length tc) R.tasks.length (v.tb.map ptrV) ∧ v.tb.length = R.tasks.length) := ⟨hrow, h.bl⟩
  have h1 := hS.tasks
  have h2 := hS.order
  obtain ⟨n, hn⟩ : ∃ n, n = R.tasks.length := ⟨_, rfl⟩
  obtain ⟨m, hm⟩ : ∃ m, m = R.order.length := ⟨_, rfl⟩
  have HN : Hid (n = R.tasks.length ∧ m = R.order.length) := ⟨hn, hm⟩
  have HTV : Hid (v.tv = .slice ta R.tasks.length tc) := htv
  rw [← hn] at c5 h1 HRow
  rw [← hm] at c6 h2
  have hwr : IntKind.i64.wrap ((n : Int) - (m : Int)) = (n : Int) - (m : Int) := by rw [IntKind.wrap_i64]; omega
  unfold ptrV
  clear h hn hm htv hov hrow
  go_enter Try.func35, Try.ntmps35
  go_wp2
  go_quiet (fail)
  have hX : KP o (w.drewN nq) b R v ∧ ∃ m, (w.drewN nq) = w.drewN m := ⟨H.out.below (below_drewN (Below.refl _ w) _), nq, rfl⟩
  refine name_x (p := fun X => KP o X b R v ∧ ∃ m, X = w.drewN m) hX ?_
  clear hX H HRow c5 c6
  rintro X hX
  have H : Hid (KP o X b R v ∧ ∃ m, X = w.drewN m) := hX
  have c5 : X.cell? ⟨b, 5, none⟩ = some v.tv := hX.1.cell 5
  rw [HTV.out, ← HN.out.1] at c5
  have hrow := (hX.1.tasks nX).1
  rw [HTV.out, ← HN.out.1] at hrow
  have HRow : Hid (X.ownsRow 0 57 1 (.slice ta n tc) n (v.tb.map ptrV) ∧ v.tb.length = n) := ⟨hrow, by rw [HN.out.1]; exact hX.1.bl⟩
  clear hX hrow
  go_wp2
  go_loop [3, 4] (fun c i => ∃ j : Nat, j ≤ n ∧ i = .int .i64 j ∧ c = .int .i64 ((n : Int) - (m : Int) - (goneN R.tasks j : Int))) (fun _ i => n - (intOf i).toNat)
  case atStart => exact ⟨0, Nat.zero_le _, rfl, by simp [goneN]⟩
  case round =>
    obtain ⟨j, hj, rfl, rfl⟩ := hrel
    by_cases hlt : j < n
    · have hjl : j < R.tasks.length := by rw [← HN.out.1]; exact hlt
      have hw := goneN_le R.tasks j
      have HWS : Hid (goneN R.tasks (j + 1) = goneN R.tasks j + if (R.tasks.getD j tk0).gone = true then 1 else 0) := goneN_succ R.tasks hjl
      obtain ⟨g, hg⟩ := owns_blk HRow.out.1 (by omega)
      subst hg
      have cp := ptr_row HRow.out.1 (j := j) (by rw [HRow.out.2]; exact hlt) HRow.out.2.symm
      have ct : X.cell? ⟨v.tb.getD j 0, 3, none⟩ = some (.bool (R.tasks.getD j tk0).gone) := H.out.1.cTk hjl 3
      generalize v.tb.getD j 0 = tb at cp ct
      have m1 : (j : Int) < (n : Int) := by omega
      generalize goneN R.tasks j = c at *
      have hwr2 : IntKind.i64.wrap ((n : Int) - (m : Int) - (c : Int) - 1) = (n : Int) - (m : Int) - (c : Int) - 1 := by rw [IntKind.wrap_i64]; omega
      cases hs : (R.tasks.getD j tk0).gone
      · rw [hs] at ct
        go_wp2
        go_round
        case rel => exact ⟨j + 1, by omega, by go_num, by rw [HWS.out, hs]; rfl⟩
        case measure => simp [intOf]; omega
      · rw [hs] at ct
        go_wp2
        go_round
        case rel => exact ⟨j + 1, by omega, by go_num, by rw [HWS.out, hs]; go_num⟩
        case measure => simp [intOf]; omega
    · obtain rfl : j = n := by omega
      have HZ : Hid (R.openI = (j : Int) - (m : Int) - (goneN R.tasks j : Int)) := by show _ = _; rw [RM.openI, HN.out.1, HN.out.2]
      go_wp2
      go_ret
      exact ⟨by rw [HZ.out]; rfl, H.out.2⟩
set_option maxRecDepth 100000 in
set_option maxHeartbeats 400000 in
theorem waiting_q (h : KP o w b R v) (hS : RSm R) :
    Calls Try.prog 46 #[ptrV b] w fun e w' => e = .returned (.int .i64 R.waitI) ∧ ∃ m, w' = w.drewN m := by
  have H : Hid (KP o w b R v) := h
  obtain ⟨ta, tc, htv⟩ := owns_form (h.tasks nX).1
  obtain ⟨oa, oc, hov⟩ := owns_form (h.order nX).1
  obtain ⟨aa, ac, hav⟩ := owns_form (h.at_ nX).1
  have c5 : w.cell? ⟨b, 5, none⟩ = some v.tv := h.cell 5
  have c6 : w.cell? ⟨b, 6, none⟩ = some v.ov := h.cell 6
  rw [htv] at c5
  rw [hov] at c6
  have h1 := hS.tasks
  have h2 := hS.order
  have h3 := hS.at_
  obtain ⟨n, hn⟩ : ∃ n, n = R.tasks.length := ⟨_, rfl⟩
  obtain ⟨m, hm⟩ : ∃ m, m = R.order.length := ⟨_, rfl⟩
  obtain ⟨r, hr⟩ : ∃ r, r = R.at_.length := ⟨_, rfl⟩
  have HN : Hid (n = R.tasks.length ∧ m = R.order.length ∧ r = R.at_.length) := ⟨hn, hm, hr⟩
  have HTV : Hid (v.tv = .slice ta R.tasks.length tc ∧ v.av = .slice aa R.at_.length ac) := ⟨htv, hav⟩
  rw [← hn] at c5 h1
  rw [← hm] at c6 h2
  rw [← hr] at h3
  have hwr : IntKind.i64.wrap ((n : Int) - (m : Int)) = (n : Int) - (m : Int) := by rw [IntKind.wrap_i64]; omega
  unfold ptrV
  clear h hn hm htv hov hav hr
  go_enter Try.func46, Try.ntmps46
  go_wp2
  go_quiet (fail)
  have hX : KP o (w.drewN nq) b R v ∧ ∃ m, (w.drewN nq) = w.drewN m := ⟨H.out.below (below_drewN (Below.refl _ w) _), nq, rfl⟩
  refine name_x (p := fun X => KP o X b R v ∧ ∃ m, X = w.drewN m) hX ?_
  clear hX H c5 c6
  rintro X hX
  have H : Hid (KP o X b R v ∧ ∃ m, X = w.drewN m) := hX
  have c5 : X.cell? ⟨b, 5, none⟩ = some v.tv := hX.1.cell 5
  rw [HTV.out.1, ← HN.out.1] at c5
  have c7 : X.cell? ⟨b, 7, none⟩ = some v.av := hX.1.cell 7
  rw [HTV.out.2, ← HN.out.2.2] at c7
  have hrow := (hX.1.tasks nX).1
  rw [HTV.out.1, ← HN.out.1] at hrow
  have harow := (hX.1.at_ nX).1
  rw [HTV.out.2, ← HN.out.2.2] at harow
  have HRow : Hid (X.ownsRow 0 57 1 (.slice ta n tc) n (v.tb.map ptrV) ∧ v.tb.length = n) := ⟨hrow, by rw [HN.out.1]; exact hX.1.bl⟩
  have HARow : Hid (X.ownsRow 0 3 1 (.slice aa r ac) r (R.at_.map natV)) := harow
  clear hX hrow harow
  go_wp2
  go_loop [3, 4] (fun c i => ∃ j : Nat, j ≤ n ∧ i = .int .i64 j ∧ c = .int .i64 ((n : Int) - (m : Int) - (goneN R.tasks j : Int))) (fun _ i => n - (intOf i).toNat)
  case atStart => exact ⟨0, Nat.zero_le _, rfl, by simp [goneN]⟩
  case round =>
    obtain ⟨j, hj, rfl, rfl⟩ := hrel
    by_cases hlt : j < n
    · have hjl : j < R.tasks.length := by rw [← HN.out.1]; exact hlt
      have hw := goneN_le R.tasks j
      have HWS : Hid (goneN R.tasks (j + 1) = goneN R.tasks j + if (R.tasks.getD j tk0).gone = true then 1 else 0) := goneN_succ R.tasks hjl
      obtain ⟨g, hg⟩ := owns_blk HRow.out.1 (by omega)
      subst hg
      have cp := ptr_row HRow.out.1 (j := j) (by rw [HRow.out.2]; exact hlt) HRow.out.2.symm
      have ct : X.cell? ⟨v.tb.getD j 0, 3, none⟩ = some (.bool (R.tasks.getD j tk0).gone) := H.out.1.cTk hjl 3
      generalize v.tb.getD j 0 = tb at cp ct
      have m1 : (j : Int) < (n : Int) := by omega
      generalize goneN R.tasks j = c at *
      have hwr2 : IntKind.i64.wrap ((n : Int) - (m : Int) - (c : Int) - 1) = (n : Int) - (m : Int) - (c : Int) - 1 := by rw [IntKind.wrap_i64]; omega
      cases hs : (R.tasks.getD j tk0).gone
      · rw [hs] at ct
        go_wp2
        go_round
        case rel => exact ⟨j + 1, by omega, by go_num, by rw [HWS.out, hs]; rfl⟩
        case measure => simp [intOf]; omega
      · rw [hs] at ct
        go_wp2
        go_round
        case rel => exact ⟨j + 1, by omega, by go_num, by rw [HWS.out, hs]; go_num⟩
        case measure => simp [intOf]; omega
    · obtain rfl : j = n := by omega
      have hgl := goneN_le R.tasks j
      have HZ : Hid (R.openI = (j : Int) - (m : Int) - (goneN R.tasks j : Int)) := by show _ = _; rw [RM.openI, HN.out.1, HN.out.2.1]
      generalize goneN R.tasks j = q at *
      go_wp2
      go_loop [3, 5] (fun c i => ∃ k : Nat, k ≤ r ∧ i = .int .i64 k ∧ c = .int .i64 ((j : Int) - (m : Int) - (q : Int) - (runN R.at_ k : Int))) (fun _ i => r - (intOf i).toNat)
      case atStart => exact ⟨0, Nat.zero_le _, rfl, by simp [runN]⟩
      case round =>
        obtain ⟨k, hk, rfl, rfl⟩ := hrel
        by_cases hlt2 : k < r
        · have hkl : k < R.at_.length := by rw [← HN.out.2.2]; exact hlt2
          have hw := runN_le R.at_ k
          have HWS : Hid (runN R.at_ (k + 1) = runN R.at_ k + if R.at_.getD k 0 ≠ 0 then 1 else 0) := runN_succ R.at_ hkl
          obtain ⟨g, hg⟩ := owns_blk HARow.out (by omega)
          subst hg
          have cp := nat_row HARow.out (j := k) hkl HN.out.2.2
          generalize R.at_.getD k 0 = tn at cp HWS
          have m1 : (k : Int) < (r : Int) := by omega
          generalize runN R.at_ k = c at *
          have hwr2 : IntKind.i64.wrap ((j : Int) - (m : Int) - (q : Int) - (c : Int) - 1) = (j : Int) - (m : Int) - (q : Int) - (c : Int) - 1 := by rw [IntKind.wrap_i64]; omega
          by_cases hs : tn = 0
          · subst hs
            have m2 : ¬ (0 : Int) < ((0 : Nat) : Int) := by omega
            go_wp2
            go_round
            case rel => exact ⟨k + 1, by omega, by go_num, by rw [HWS.out]; rfl⟩
            case measure => simp [intOf]; omega
          · have m2 : (0 : Int) < (tn : Int) := by omega
            go_wp2
            go_round
            case rel => exact ⟨k + 1, by omega, by go_num, by rw [HWS.out, if_pos hs]; go_num⟩
            case measure => simp [intOf]; omega
        · obtain rfl : k = r := by omega
          have HY : Hid (R.waitI = (j : Int) - (m : Int) - (q : Int) - (runN R.at_ k : Int)) := by show _ = _; rw [RM.waitI, HZ.out, HN.out.2.2]
          go_wp2
          go_ret
          exact ⟨by rw [HY.out]; rfl, H.out.2⟩
theorem waiting_k (h : KP o w b R v) (hS : RSm R) :
    Calls Try.prog 46 #[ptrV b] w fun e w' => e = .returned (.int .i64 R.waitI) ∧ Below w.heap.size w w' :=
  (waiting_q h hS).mono fun e w' ⟨h1, m, h2⟩ => ⟨h1, by rw [h2]; exact below_drewN (Below.refl _ _) _⟩
theorem any_upto (l : List Nat) (n : Nat) (h : ∀ m, m < l.length → l.getD m 0 ≠ n) : (l.any fun k => decide (k = n)) = false := by
  rw [List.any_eq_false]
  intro x hx
  obtain ⟨i, hi, rfl⟩ := List.getElem_of_mem hx
  have := h i hi
  simpa [List.getD, hi] using this
theorem any_at (l : List Nat) (n : Nat) {m : Nat} (hm : m < l.length) (h : l.getD m 0 = n) : (l.any fun k => decide (k = n)) = true := by
  rw [List.any_eq_true]
  refine ⟨l[m], by simp, ?_⟩
  simpa [List.getD, hm] using h
set_option maxRecDepth 100000 in
set_option maxHeartbeats 400000 in
theorem done_k (h : KP o w b R v) (hS : RSm R) {n : Nat} (hn1 : 1 ≤ n) (hn2 : n ≤ R.tasks.length) :
    Calls Try.prog 53 #[ptrV b, .int .i64 (n : Int)] w fun e w' => e = .returned (.bool (R.doneB n)) ∧ w' = w := by
  have H : Hid (KP o w b R v) := h
  obtain ⟨ta, tc, htv⟩ := owns_form (h.tasks nX).1
  obtain ⟨oa, oc, hov⟩ := owns_form (h.order nX).1
  have c5 : w.cell? ⟨b, 5, none⟩ = some v.tv := h.cell 5
  have c6 : w.cell? ⟨b, 6, none⟩ = some v.ov := h.cell 6
  rw [htv] at c5
  rw [hov] at c6
  have hrow := (h.tasks nX).1
  rw [htv] at hrow
  have horow := (h.order nX).1
  rw [hov] at horow
  have h1 := hS.tasks
  have h2 := hS.order
  obtain ⟨j, rfl⟩ : ∃ j, n = j + 1 := ⟨n - 1, by omega⟩
  obtain ⟨g, hg⟩ := owns_blk hrow (by omega)
  subst hg
  have cp := ptr_row hrow (j := j) (by rw [h.bl]; omega) h.bl.symm
  have ct : w.cell? ⟨v.tb.getD j 0, 3, none⟩ = some (.bool (R.tk (j + 1)).gone) := h.cTk (by omega) 3
  have HD : Hid (R.doneB (j + 1) = ((R.tk (j + 1)).gone || R.order.any fun k => decide (k = j + 1))) := rfl
  generalize v.tb.getD j 0 = tb at cp ct
  generalize (R.tk (j + 1)).gone = gn at ct HD
  obtain ⟨N, hN⟩ : ∃ N, N = R.tasks.length := ⟨_, rfl⟩
  obtain ⟨m, hm⟩ : ∃ m, m = R.order.length := ⟨_, rfl⟩
  have HN : Hid (m = R.order.length) := hm
  rw [← hN] at c5 h1 hn2
  rw [← hm] at c6 h2 horow
  have HORow : Hid (w.ownsRow 0 3 1 (.slice oa m oc) m (R.order.map natV)) := horow
  obtain ⟨z, hz⟩ : ∃ z : Int, z = ((j + 1 : Nat) : Int) := ⟨_, rfl⟩
  have HZ : Hid (z = ((j + 1 : Nat) : Int)) := hz
  have hwr : IntKind.i64.wrap (z - 1) = (j : Int) := by rw [IntKind.wrap_i64]; omega
  have m0 : (j : Int) < (N : Int) := by omega
  rw [← hz]
  unfold ptrV
  clear h hN hm htv hov hrow horow hz hn1 hn2 H
  cases gn
  · go_enter Try.func53, Try.ntmps53
    go_wp2
    go_loop [5] (fun i => ∃ k : Nat, k ≤ m ∧ i = .int .i64 k ∧ ∀ q, q < k → R.order.getD q 0 ≠ j + 1) (fun i => m - (intOf i).toNat)
    case atStart => exact ⟨0, Nat.zero_le _, rfl, fun q hq => absurd hq (Nat.not_lt_zero _)⟩
    case round =>
      obtain ⟨k, hk, rfl, hno⟩ := hrel
      have HNo : Hid (∀ q, q < k → R.order.getD q 0 ≠ j + 1) := hno
      clear hno
      by_cases hlt : k < m
      · obtain ⟨g2, hg2⟩ := owns_blk HORow.out (by omega)
        subst hg2
        have hkl : k < R.order.length := by rw [← HN.out]; exact hlt
        have co := nat_row HORow.out (j := k) hkl HN.out
        obtain ⟨tn, htn⟩ : ∃ tn, tn = R.order.getD k 0 := ⟨_, rfl⟩
        have HTN : Hid (tn = R.order.getD k 0) := htn
        rw [← htn] at co
        clear htn
        have m1 : (k : Int) < (m : Int) := by omega
        by_cases he : (tn : Int) = z
        · have HA : Hid ((R.order.any fun k => decide (k = j + 1)) = true) := any_at _ _ hkl (by rw [← HTN.out]; have := HZ.out; omega)
          rw [he] at co
          clear hkl
          go_wp2
          go_ret
          exact ⟨by rw [HD.out, HA.out]; rfl, rfl⟩
        · have HNe : Hid (tn ≠ j + 1) := fun e => he (by rw [HZ.out, e])
          clear hkl
          go_wp2
          go_round
          case rel => exact ⟨k + 1, by omega, by go_num, fun q hq => by
            by_cases e : q = k
            · rw [e, ← HTN.out]; exact HNe.out
            · exact HNo.out q (by omega)⟩
          case measure => simp [intOf]; omega
      · obtain rfl : k = m := by omega
        have HA : Hid ((R.order.any fun k => decide (k = j + 1)) = false) := any_upto _ _ (by rw [← HN.out]; exact HNo.out)
        go_wp2
        go_ret
        exact ⟨by rw [HD.out, HA.out]; rfl, rfl⟩
  · go_enter Try.func53, Try.ntmps53
    go_wp2
    go_ret
    exact ⟨by rw [HD.out]; rfl, rfl⟩
end
end Go.Proofs.Ytlbmcdoldnajoab
