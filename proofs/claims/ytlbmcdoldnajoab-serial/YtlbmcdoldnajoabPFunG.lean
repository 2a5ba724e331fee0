import Derived.Test.YtlbmcdoldnajoabPFunF

namespace Go.Proofs.Ytlbmcdoldnajoab
open Go.RowKit
attribute [local go_sem ↓] wStM wStR wLdM wLdR wLdK wStK wLdA wStA wLdG wStG wLdW wStW
section
variable {o : Nat → Option Nat} {w : World} {b : Nat} {p : PM} {v : PV}
/-- what 'without' leaves of the urgent ones -/
def LeftU (o : Nat → Option Nat) (w : World) (b : Nat) (v : PV) (p1 : PM) (v1 : PV) (n : Nat) (e : Ending) (w' : World) : Prop := ∃ ra m rc, e = .returned (.slice ra m rc) ∧ w'.cell? ⟨b, 40, none⟩ = some v1.uv ∧ w'.frozen? ⟨b, 40, none⟩ = false ∧ ∃ o2 v2, Now o w b v o2 (w'.setCell ⟨b, 40, none⟩ (.slice ra m rc)) { p1 with urgent := DeskM.left p1.urgent n } v2
theorem withoutU {o1 : Nat → Option Nat} {X : World} {p1 : PM} {v1 : PV} (h : Now o w b v o1 X p1 v1) (hin : ∀ n ∈ p1.urgent, 1 ≤ n ∧ n ≤ p1.tasks.length) (hl : p1.urgent.length ≤ 1000000000) (n : Nat) :
    Calls Try.prog 65 #[v1.uv, .int .i64 (n : Int)] X fun e w' => LeftU o w b v p1 v1 n e w' := by
  refine (withoutT_any h.pd (h.pd.urg nX).1 hin hl n).mono ?_
  rintro e w' ⟨x, rfl, hown, hb⟩
  obtain ⟨ra, rc, hx⟩ := owns_form hown
  subst hx
  have hs := h.pd.setUrg (own_grow X o1 3) (w1 := w') (Fr.of_below hb) (x := .slice ra (DeskM.left p1.urgent n).length rc) (l := DeskM.left p1.urgent n) ⟨owns_base hown (Nat.zero_le _), fun k hk => grow_new (owns_ge hown hk)⟩
  exact ⟨ra, _, rc, rfl, (hb.cell (p := ⟨b, 40, none⟩) h.pd.lt).trans h.pd.cUrg, by rw [World.frozen?_of_block (w := X) (hb.block _ h.pd.lt)]; exact h.pd.free _, _, _, h.upd hs.1 (own_grow _ _ _) hs.2 rfl rfl⟩
/-- what 'without' leaves of the queue -/
def LeftQ (o : Nat → Option Nat) (w : World) (b : Nat) (v : PV) (p1 : PM) (v1 : PV) (n : Nat) (e : Ending) (w' : World) : Prop := ∃ ra m rc, e = .returned (.slice ra m rc) ∧ w'.cell? ⟨b, 39, none⟩ = some v1.qv ∧ w'.frozen? ⟨b, 39, none⟩ = false ∧ ∃ o2 v2, Now o w b v o2 (w'.setCell ⟨b, 39, none⟩ (.slice ra m rc)) { p1 with queue := DeskM.left p1.queue n } v2
theorem withoutQ {o1 : Nat → Option Nat} {X : World} {p1 : PM} {v1 : PV} (h : Now o w b v o1 X p1 v1) (hin : ∀ n ∈ p1.queue, 1 ≤ n ∧ n ≤ p1.tasks.length) (hl : p1.queue.length ≤ 1000000000) (n : Nat) :
    Calls Try.prog 65 #[v1.qv, .int .i64 (n : Int)] X fun e w' => LeftQ o w b v p1 v1 n e w' := by
  refine (withoutT_any h.pd (h.pd.queue nX).1 hin hl n).mono ?_
  rintro e w' ⟨x, rfl, hown, hb⟩
  obtain ⟨ra, rc, hx⟩ := owns_form hown
  subst hx
  have hs := h.pd.setQueue (own_grow X o1 2) (w1 := w') (Fr.of_below hb) (x := .slice ra (DeskM.left p1.queue n).length rc) (l := DeskM.left p1.queue n) ⟨owns_base hown (Nat.zero_le _), fun k hk => grow_new (owns_ge hown hk)⟩
  exact ⟨ra, _, rc, rfl, (hb.cell (p := ⟨b, 39, none⟩) h.pd.lt).trans h.pd.cQueue, by rw [World.frozen?_of_block (w := X) (hb.block _ h.pd.lt)]; exact h.pd.free _, _, _, h.upd hs.1 (own_grow _ _ _) hs.2 rfl rfl⟩
theorem PD.bw (h : PD o w b p v) : b ≠ v.wb := blk_ne h.dblk (h.work nX).2 (by decide)
set_option maxRecDepth 100000 in
set_option maxHeartbeats 400000 in
theorem accept_any (h : PD o w b p v) {i : Nat} (hi : i < p.workers.length) (ht : (p.wk i).ticket ≠ 0) (ht2 : (p.wk i).ticket ≤ p.tasks.length) (htl : (p.wk i).x.told.length ≤ 1000) (hkl : p.known.length ≤ 1000000000) (hwl : p.workers.length ≤ 1000) (hul : p.urgent.length ≤ 1000000000) (hui : ∀ n ∈ p.urgent, 1 ≤ n ∧ n ≤ p.tasks.length) :
    Calls Try.prog 85 #[ptrV b, .pointer (some ⟨v.wb, i * 74, none⟩)] w fun e w' => Done o w b v (p.accept i) e w' := by
  have H : Hid (PD o w b p v) := h
  obtain ⟨n, hn⟩ : ∃ n, n = (p.wk i).ticket := ⟨_, rfl⟩
  rw [← hn] at ht ht2
  obtain ⟨j, hj⟩ : ∃ j, n = j + 1 := ⟨n - 1, by omega⟩
  have hjl : j < p.tasks.length := by omega
  have HNJ : Hid (n = j + 1 ∧ n = (p.wk i).ticket ∧ j < p.tasks.length) := ⟨hj, hn, hjl⟩
  have HB : Hid ((p.wk i).x.told.length ≤ 1000 ∧ p.known.length ≤ 1000000000 ∧ p.workers.length ≤ 1000 ∧ p.urgent.length ≤ 1000000000 ∧ (∀ n ∈ p.urgent, 1 ≤ n ∧ n ≤ p.tasks.length)) := ⟨htl, hkl, hwl, hul, hui⟩
  have c0 : w.cell? ⟨v.wb, i * 74, none⟩ = some (.pointer (some ⟨v.ts.getD j 0, 0, none⟩)) := by rw [h.cWkT hi, ← hn, tkO, if_neg ht, tkV, hj]; rfl
  have htb0 : w.heap[v.ts.getD j 0]? = some (.cells (taskC j (p.tasks.getD j task0) (v.sv.getD j nilV) (v.tv.getD j nilV)) 99 (0, 0)) := h.task hjl
  obtain ⟨tb, htb⟩ : ∃ tb, tb = v.ts.getD j 0 := ⟨_, rfl⟩
  have HTB : Hid (tb = v.ts.getD j 0) := htb
  rw [← htb] at c0 htb0
  unfold ptrV
  have HTB0 : Hid (w.heap[tb]? = some (.cells (taskC j (p.tasks.getD j task0) (v.sv.getD j nilV) (v.tv.getD j nilV)) 99 (0, 0))) := htb0
  clear h hn hj htb hjl htb0 htl hkl hwl hul hui
  go_enter Try.func85, Try.ntmps85
  go_wp2_with fail
  refine (state_any _ _ (wkSpot p v i) _ _ _ _ (H.out.eng hi (S := fun _ => True) trivial (fun _ _ => trivial))).mono ?_
  rintro e W1 ⟨rfl, hW⟩
  obtain rfl := hW.symm
  clear hW
  go_wp2_with fail
  refine (end_task tb _ (p.wk i).st HTB0.out rfl).mono ?_
  rintro e W2 ⟨rfl, hW2⟩
  obtain ⟨p2, hp2⟩ : ∃ p2 : PM, p2 = { p with tasks := p.tasks.set j { p.tasks.getD j task0 with state := (p.wk i).st, steps := [] } } := ⟨_, rfl⟩
  obtain ⟨v2, hv2⟩ : ∃ v2 : PV, v2 = { v with sv := v.sv.set j nilV } := ⟨_, rfl⟩
  obtain ⟨p3, hp3⟩ : ∃ p3 : PM, p3 = { p with tasks := p.tasks.set j { p.tasks.getD j task0 with state := (p.wk i).st, steps := [], told := (p.wk i).x.told } } := ⟨_, rfl⟩
  have HP2 : Hid (p2.wk i = p.wk i ∧ i < p2.workers.length ∧ j < p2.tasks.length ∧ { p2 with tasks := p2.tasks.set j { p2.tasks.getD j task0 with told := (p.wk i).x.told } } = p3) := by
    have hjl := HNJ.out.2.2
    subst hp2 hp3
    exact ⟨rfl, hi, by simpa using hjl, by simp [List.getD, hjl]⟩
  have HP3 : Hid (p3.wk i = p.wk i ∧ i < p3.workers.length ∧ p3.urgent = p.urgent ∧ p3.tasks.length = p.tasks.length ∧ p3.known = p.known ∧ p3.workers = p.workers ∧ j < p3.tasks.length ∧ p.accept i = ({ p3 with vals := if (p.wk i).st = 3 then see p3.vals (p.wk i).x.puts else p3.vals, urgent := DeskM.left p3.urgent n } : PM).rest i) := by
    have hjl := HNJ.out.2.2
    refine ⟨by subst hp3; rfl, by subst hp3; exact hi, by subst hp3; rfl, by subst hp3; simp, by subst hp3; rfl, by subst hp3; rfl, by subst hp3; simpa using hjl, ?_⟩
    have e : p.setTask n { p.task n with state := (p.wk i).st, steps := [], told := (p.wk i).x.told } = p3 := by rw [hp3, PM.setTask, PM.task, HNJ.out.1, Nat.add_sub_cancel]
    unfold PM.accept
    simp only
    rw [← HNJ.out.2.1, e]
  have HW2 : Hid (Now o w b v o W2 p2 v2) := by
    have hjl := HNJ.out.2.2
    have a1 := H.out.setTk (i := j) hjl (c := 1) (x := .int .i64 (p.wk i).st) (t' := { p.tasks.getD j task0 with state := (p.wk i).st }) rfl rfl rfl
    have e1 : (p.tasks.set j { p.tasks.getD j task0 with state := (p.wk i).st }).getD j task0 = { p.tasks.getD j task0 with state := (p.wk i).st } := by simp [List.getD, hjl]
    have a2 := a1.1.noSteps (i := j) (by simpa using hjl)
    simp only [e1, List.set_set] at a2
    rw [← HTB.out] at a1 a2
    rw [hW2, hp2, hv2]
    exact ((Now.start H.out).step a1 rfl rfl).step a2 rfl rfl
  have HV2 : Hid (v2.ts = v.ts ∧ v2.wb = v.wb) := by subst hv2; exact ⟨rfl, rfl⟩
  clear hW2 hp2 hv2 hp3
  have c1 : W2.cell? ⟨v.wb, i * 74, none⟩ = some (.pointer (some ⟨tb, 0, none⟩)) := by
    have := HW2.out.pd.cWkT HP2.out.2.1
    rw [HP2.out.1, ← HNJ.out.2.1, tkO, if_neg ht, tkV, HNJ.out.1, HV2.out.1, HV2.out.2] at this
    rw [HTB.out]
    exact this
  clear c0
  have hE2 := HW2.out.pd.eng HP2.out.2.1 (S := fun _ => True) trivial (fun _ _ => trivial)
  rw [HP2.out.1] at hE2
  have HE2 : Hid (Eng (fun _ => True) W2 (wkSpot p2 v2 i) (v2.rt.getD i nilV) (p.wk i).st (p.wk i).x (see (p.wk i).m (p.wk i).x.puts) ∧ (wkSpot p2 v2 i).b = v.wb ∧ (wkSpot p2 v2 i).o = i * 74 + 2) := ⟨hE2, HV2.out.2, rfl⟩
  clear hE2
  go_wp2_with fail
  have hT := told_any _ W2 (wkSpot p2 v2 i) _ _ _ _ HE2.out.1 HB.out.1
  rw [HE2.out.2.1, HE2.out.2.2] at hT
  refine hT.mono ?_
  clear hT
  rintro e W3 ⟨tv, rfl, hown3, hb3⟩
  obtain ⟨ta, tc, htv⟩ := owns_form hown3
  subst htv
  have hX3 := HW2.out.pd.setTold (own_grow W2 o (8 + 4 * j)) HP2.out.2.2.1 (Fr.of_below (S := fun _ => False) hb3) (x := .slice ta (p.wk i).x.told.length tc) (l := (p.wk i).x.told) ⟨owns_base hown3 (Nat.zero_le _), fun k hk => grow_new (owns_ge hown3 hk)⟩
  obtain ⟨v3, hv3⟩ : ∃ v3 : PV, v3 = { v2 with tv := v2.tv.set j (.slice ta (p.wk i).x.told.length tc) } := ⟨_, rfl⟩
  rw [HP2.out.2.2.2, ← hv3, HV2.out.1, ← HTB.out] at hX3
  have HV3 : Hid (v3.ts = v.ts ∧ v3.wb = v.wb) := by subst hv3; exact HV2.out
  have HX3 : Hid (Now o w b v (grow W2 o (8 + 4 * j)) (W3.setCell ⟨tb, 5, none⟩ (.slice ta (p.wk i).x.told.length tc)) p3 v3) := HW2.out.upd hX3.1 (own_grow _ _ _) hX3.2 (by rw [HV3.out.1, HV2.out.1]) (by rw [HV3.out.2, HV2.out.2])
  have htk2 : W2.heap[tb]? = some (.cells (taskC j (p2.tasks.getD j task0) (v2.sv.getD j nilV) (v2.tv.getD j nilV)) 99 (0, 0)) := by
    have := HW2.out.pd.task HP2.out.2.2.1
    rw [HV2.out.1, ← HTB.out] at this
    exact this
  have hlt2 := blk_lt htk2
  have c5 : W3.cell? ⟨tb, 5, none⟩ = some (v2.tv.getD j nilV) := (hb3.cell (p := ⟨tb, 5, none⟩) hlt2).trans (by rw [blk_cell htk2]; rfl)
  have f5 : W3.frozen? ⟨tb, 5, none⟩ = false := by rw [World.frozen?_of_block (w := W2) (hb3.block _ hlt2)]; exact blk_free htk2
  clear hX3 hv3 htk2 hown3 hlt2 c1
  have hb3' : Hid (Below W2.heap.size W2 W3) := hb3
  clear hb3
  go_wp2_with fail
  refine name_wp (p := fun X => Now o w b v (grow W2 o (8 + 4 * j)) X p3 v3) HX3.out ?_
  rintro X3 hX3
  have HN3 : Hid (Now o w b v (grow W2 o (8 + 4 * j)) X3 p3 v3) := hX3
  clear hX3 HX3 c5 f5 hb3' HE2 HW2
  generalize grow W2 o (8 + 4 * j) = o3 at HN3
  obtain ⟨p4, hp4⟩ : ∃ p4 : PM, p4 = { p3 with vals := if (p.wk i).st = 3 then see p3.vals (p.wk i).x.puts else p3.vals } := ⟨_, rfl⟩
  have HP4 : Hid (p4.urgent = p.urgent ∧ p4.tasks.length = p.tasks.length ∧ p4.known = p.known ∧ p4.workers = p.workers ∧ p.accept i = ({ p4 with urgent := DeskM.left p4.urgent n } : PM).rest i) := by
    subst hp4
    exact ⟨HP3.out.2.2.1, HP3.out.2.2.2.1, HP3.out.2.2.2.2.1, HP3.out.2.2.2.2.2.1, HP3.out.2.2.2.2.2.2.2⟩
  have HA : Hid (∀ k, Calls Try.prog 22 #[.pointer (some ⟨v.wb, i * 74 + 2, none⟩), .pointer (some ⟨b, 4, none⟩)] (X3.drewN k) fun e w' => e = .returned (.tuple #[]) ∧ Now o w b v o3 w' p4 v3) := fun k => by
    have hk := HN3.out.below (below_drewN (Below.refl _ X3) k)
    have hE3 := hk.pd.eng HP3.out.2.1 (S := fun _ => True) trivial (fun _ _ => trivial)
    rw [HP3.out.1] at hE3
    have hA := apply_any _ _ (wkSpot p3 v3 i) (mapSpot b p3 v3) _ _ _ _ _ hE3 hk.pd.mapIn hk.pd.bw
    rw [show (wkSpot p3 v3 i).b = v.wb from HV3.out.2, show (wkSpot p3 v3 i).o = i * 74 + 2 from rfl, show (mapSpot b p3 v3).b = b from rfl, show (mapSpot b p3 v3).o = 4 from rfl] at hA
    refine hA.mono ?_
    rintro e X4 ⟨rfl, hM4, hF4⟩
    rw [hp4]
    exact ⟨rfl, hk.step (hk.pd.putMap hM4 hF4) rfl rfl⟩
  clear hp4
  go_region_with (go_at_call 22; refine (HA.out _).mono ?_; rintro e X4 ⟨rfl, hN4⟩; have HN4 : Hid (Now o w b v o3 X4 p4 v3) := hN4; clear hN4)
  clear HA HN3
  obtain ⟨ua, uc, huv⟩ := owns_form (HN4.out.pd.urg nX).1
  have c40 := HN4.out.pd.cUrg
  rw [huv] at c40
  have HUV : Hid (v3.uv = .slice ua p4.urgent.length uc) := huv
  have ct : X4.cell? ⟨tb, 0, none⟩ = some (.int .i64 (n : Int)) := by
    have := HN4.out.pd.cTk (i := j) (by rw [HP4.out.2.1]; exact HNJ.out.2.2) 0
    rw [HV3.out.1, ← HTB.out] at this
    rw [this, HNJ.out.1]
    rfl
  clear huv
  generalize p4.urgent.length = L at c40 HUV
  have HWo : Hid (∀ k, Calls Try.prog 65 #[.slice ua L uc, .int .i64 (n : Int)] (X4.drewN k) fun e w' => LeftU o w b v p4 v3 n e w') := fun k => by
    rw [← HUV.out]
    exact withoutU (HN4.out.below (below_drewN (Below.refl _ X4) k)) (by rw [HP4.out.1, HP4.out.2.1]; exact HB.out.2.2.2.2) (by rw [HP4.out.1]; exact HB.out.2.2.2.1) n
  go_wp2_with fail
  go_region_with (go_at_call 65; refine (HWo.out _).mono ?_; rintro e X5 ⟨ra, m, rc, rfl, k1, k2, k3⟩; rw [HUV.out] at k1; have HN5 : Hid (∃ o2 v2, Now o w b v o2 (X5.setCell ⟨b, 40, none⟩ (.slice ra m rc)) { p4 with urgent := DeskM.left p4.urgent n } v2) := k3; clear k3)
  all_goals
    obtain ⟨o5, v5, hN5⟩ := HN5.out
    have HN5' : Hid (Now o w b v o5 (X5.setCell ⟨b, 40, none⟩ (.slice ra m rc)) { p4 with urgent := DeskM.left p4.urgent n } v5) := hN5
    clear hN5 HN5 HWo c40 ct
    go_wp2_with fail
    have hR := rest_any (p := { p4 with urgent := DeskM.left p4.urgent n }) (i := i) HN5'.out.pd (by show i < p4.workers.length; rw [HP4.out.2.2.2.1]; exact hi) (by show p4.known.length ≤ _; rw [HP4.out.2.2.1]; exact HB.out.2.1) (by show p4.workers.length ≤ _; rw [HP4.out.2.2.2.1]; exact HB.out.2.2.1)
    rw [HN5'.out.wb] at hR
    unfold ptrV at hR
    refine hR.mono ?_
    clear hR
    rintro e W6 ⟨rfl, hs⟩
    have HX : Hid (Stp o w b v.ts v.wb (p.accept i) W6) := by
      rw [HP4.out.2.2.2.2]
      obtain ⟨o6, v6, h6⟩ := HN5'.out.stp hs
      exact h6.done
    clear hs
    go_wp2
    go_end0
    exact ⟨rfl, HX.out⟩
end
end Go.Proofs.Ytlbmcdoldnajoab
