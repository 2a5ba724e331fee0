import Derived.Test.YtlbmcdoldnajoaaGreatPFunI
set_option maxRecDepth 100000
set_option maxHeartbeats 400000
namespace Go.Proofs.YtlbmcdoldnajoaaGreat
open Go.RowKit
attribute [local go_sem ↓] wStM wStR wLdM wLdR wLdK wStK wLdA wStA wLdG wStG wLdW wStW
section
variable {o : Nat → Option Nat} {w : World} {b : Nat} {p : PM} {v : PV}
theorem name_x {Q : Exit → Act → World → Prop} {e : Exit} {a : Act} {W : World} {p : World → Prop} (h : p W) (k : ∀ W', p W' → Q e a W') : Q e a W := k W h
def LeftQB (o : Nat → Option Nat) (w : World) (b : Nat) (v : PV) (T : TypeId) (c : Array Value) (p1 : PM) (v1 : PV) (n : Nat) (e : Ending) (w' : World) : Prop := ∃ ra m rc, e = .returned (.slice ra m rc) ∧ w'.cell? ⟨b, 39, none⟩ = some v1.qv ∧ w'.frozen? ⟨b, 39, none⟩ = false ∧ ∃ o2 v2, NowB o w b v T c o2 (w'.setCell ⟨b, 39, none⟩ (.slice ra m rc)) { p1 with queue := DeskM.left p1.queue n } v2
theorem withoutQB {T : TypeId} {c : Array Value} {o1 : Nat → Option Nat} {X : World} {p1 : PM} {v1 : PV} (h : NowB o w b v T c o1 X p1 v1) (hin : ∀ n ∈ p1.queue, 1 ≤ n ∧ n ≤ p1.tasks.length) (hl : p1.queue.length ≤ 1000000000) (n : Nat) :
    Calls Tryz.prog 63 #[v1.qv, .int .i64 (n : Int)] X fun e w' => LeftQB o w b v T c p1 v1 n e w' := by
  refine (withoutQ (Now.start h.now.pd) hin hl n).mono ?_
  rintro e w' ⟨ra, m, rc, rfl, h1, h2, o2, v2, h3⟩
  exact ⟨ra, m, rc, rfl, h1, h2, o2, v2, h.upd h3.pd h3.own h3.fr h3.ts h3.wb⟩
theorem NowB.step {T : TypeId} {c : Array Value} {o1 : Nat → Option Nat} {W W' : World} {p1 p2 : PM} {v1 v2 : PV} (h : NowB o w b v T c o1 W p1 v1) (h1 : PD o1 W' b p2 v2 ∧ Fr (Mine o1) W W') (h4 : v2.ts = v1.ts) (h5 : v2.wb = v1.wb) : NowB o w b v T c o1 W' p2 v2 := h.upd h1.1 (Own.refl _ _) h1.2 h4 h5
theorem set_getD {α : Type} {l : List α} {i : Nat} (hi : i < l.length) (z : α) : l.set i (l.getD i z) = l := by
  apply List.ext_getElem?
  intro k
  by_cases e : k = i
  · subst e; simp [List.getD, hi]
  · rw [List.getElem?_set_ne (Ne.symm e)]
theorem PD.wkCell (h : PD o w b p v) {i : Nat} (hi : i < p.workers.length) {c : Nat} (hc : c < 74) {x : Value} {a : WkM} (he : (wkC v.ts (p.wk i) (v.rt.getD i nilV)).set c x = wkC v.ts a (v.rt.getD i nilV)) (hx : a.x = (p.wk i).x) :
    PD o (w.setCell ⟨v.wb, i * 74 + c, none⟩ x) b { p with workers := p.workers.set i a } v ∧ Fr (Mine o) w (w.setCell ⟨v.wb, i * 74 + c, none⟩ x) := by
  have hrl := h.rl
  have hb := h.wblk hi
  have hf : Fr (fun k => k = v.wb) w (w.setCell ⟨v.wb, i * 74 + c, none⟩ x) := (Fr.refl (fun k => k = v.wb) w).setCell (p := ⟨v.wb, i * 74 + c, none⟩) (fun _ => rfl) x
  have hr := (h.rtold i hi nX)
  have hne : (v.rt.getD i nilV).ownBlock ≠ some v.wb := owns_ne hr.1 (h.work nX).2 (by decide)
  have := h.setWk (Own.refl w o) hi (hf.mono (fun k _ e => Or.inl e)) (a := a) (x := v.rt.getD i nilV) (by rw [WkM.ok, hx]; exact h.wkOk hi) (by
    rw [blk_set hb, List.setIfInBounds_toArray, ← h.preLen hi, mid_set _ _ _ _ _ (by rw [wkC_len _ (h.wkOk hi)]; exact hc), he]) ⟨by rw [hx]; exact owns_set hr.1 hne _ _, hr.2⟩
  rw [set_getD (by rw [hrl]; exact hi)] at this
  exact this
theorem PD.wkRun (h : PD o w b p v) {i : Nat} (hi : i < p.workers.length) {w1 : World} (hf : Fr (fun k => k = v.wb) w w1) (f : Int → Int)
    (hblk : w1.heap[v.wb]? = some (.cells (wkCells v.ts (p.workers.take i) (v.rt.take i) ++ [tkO v.ts (p.wk i).ticket, natV (p.wk i).beg] ++ engCells 2 mo0 f nilV ++ wkCells v.ts (p.workers.drop (i + 1)) (v.rt.drop (i + 1))).toArray 140 (0, 0))) :
    PD o w1 b { p with workers := p.workers.set i ⟨(p.wk i).ticket, (p.wk i).beg, 2, mo0, f⟩ } { v with rt := v.rt.set i nilV } ∧ Fr (Mine o) w w1 :=
  h.setWk (Own.refl w o) hi (hf.mono (fun k _ e => Or.inl e)) (a := ⟨(p.wk i).ticket, (p.wk i).beg, 2, mo0, f⟩) (x := nilV) ⟨rfl, rfl⟩ (by rw [hblk, wkC, show see f mo0.puts = f from rfl]; simp) ⟨World.ownsRow_nil _ _ _ _, fun k hk => by cases hk⟩
theorem next_in (hF : Fits p) (h : p.next ≠ 0) : 1 ≤ p.next ∧ p.next ≤ p.tasks.length := by
  have hg : ∀ l : List Nat, l.getD 0 0 ≠ 0 → l.getD 0 0 ∈ l := fun l hl => by
    cases l with
    | nil => simp at hl
    | cons a r => simp
  unfold PM.next at *
  split at h
  · rename_i e; rw [if_pos e]; exact hF.queue.2 _ (hg _ h)
  · rename_i e
    rw [if_neg e]
    split at h
    · rename_i e2; rw [if_pos e2]; exact hF.urg.2 _ (hg _ h)
    · exact absurd rfl h
theorem take_pd (h : PD o w b p v) (hF : Fits p) {i : Nat} (hi : i < p.workers.length) :
    Calls Tryz.prog 83 #[ptrV b, .pointer (some ⟨v.wb, i * 74, none⟩)] w fun e w' => Noted o w b v (p.take i) e w' := by
  have H : Hid (PD o w b p v) := h
  have HF : Hid (Fits p) := hF
  unfold ptrV
  clear h hF
  go_enter Tryz.func83, Tryz.ntmps83
  go_wp2_with fail
  refine name_calls (p := fun W => NowB o w b v 122 #[.int .i64 0, .int .i64 0, .int .i64 0] (cut o w) W p v) (NowB.start H.out) ?_
  rintro W0 hW0
  have HW0 : Hid (NowB o w b v 122 #[.int .i64 0, .int .i64 0, .int .i64 0] (cut o w) W0 p v) := hW0
  clear hW0
  have hNx := next_pd HW0.out.now.pd HF.out.wks (fun n hn => by have := HF.out.urg.2 n hn; omega) (fun n hn => by have := HF.out.queue.2 n hn; omega) HF.out.urg.1 HF.out.queue.1
  unfold ptrV at hNx
  refine hNx.mono ?_
  clear hNx
  rintro e W1 ⟨rfl, hb1⟩
  have HW1 : Hid (NowB o w b v 122 #[.int .i64 0, .int .i64 0, .int .i64 0] (cut o w) W1 p v) := HW0.out.below hb1
  clear hb1 HW0
  obtain ⟨n, hn⟩ : ∃ n, n = p.next := ⟨_, rfl⟩
  have HN : Hid (n = p.next) := hn
  rw [← hn]
  by_cases hz : n = 0
  · have e0 : tkO v.ts n = .pointer none := by rw [tkO, if_pos hz]
    have HT : Hid (p.take i = (p, 0, 0, 0)) := by show _ = _; simp [PM.take, ← HN.out, hz]
    rw [e0]
    obtain ⟨z0, z1, z2, zf⟩ : W1.cell? ⟨w.heap.size, 0, none⟩ = some (.int .i64 0) ∧ W1.cell? ⟨w.heap.size, 1, none⟩ = some (.int .i64 0) ∧ W1.cell? ⟨w.heap.size, 2, none⟩ = some (.int .i64 0) ∧ (∀ i, W1.frozen? ⟨w.heap.size, i, none⟩ = false) := ⟨by rw [blk_cell HW1.out.box]; rfl, by rw [blk_cell HW1.out.box]; rfl, by rw [blk_cell HW1.out.box]; rfl, fun _ => blk_free HW1.out.box⟩
    clear hn e0
    go_wp2
    refine bodyPost_ret (v := noteA (0, 0, 0)) (by simp [results, Tryz.results83, go_sem, z0, z1, z2, noteA]) rfl ?_
    rw [HT.out]
    exact ⟨rfl, (((HW1.out.box' 0 _).box' 1 _).box' 2 _).done⟩
  · obtain ⟨n1, n2⟩ := next_in HF.out (by rw [← hn]; exact hz)
    rw [← hn] at n1 n2
    obtain ⟨j, hj⟩ : ∃ j, n = j + 1 := ⟨n - 1, by omega⟩
    have hjl : j < p.tasks.length := by omega
    have HNJ : Hid (n = j + 1 ∧ j < p.tasks.length) := ⟨hj, hjl⟩
    obtain ⟨tb, htb⟩ : ∃ tb, tb = v.ts.getD j 0 := ⟨_, rfl⟩
    have HTB : Hid (tb = v.ts.getD j 0) := htb
    have e0 : tkO v.ts n = .pointer (some ⟨tb, 0, none⟩) := by rw [tkO, if_neg hz, tkV, hj, htb]; rfl
    have HE0 : Hid (tkO v.ts n = .pointer (some ⟨tb, 0, none⟩)) := e0
    rw [e0]
    have ct : W1.cell? ⟨tb, 0, none⟩ = some (.int .i64 (n : Int)) := by
      have := HW1.out.now.pd.cTk hjl 0
      rw [← htb] at this
      rw [this, hj]
      rfl
    obtain ⟨qa, qc, hqv⟩ := owns_form (HW1.out.now.pd.queue nX).1
    have c39 := HW1.out.now.pd.cQueue
    rw [hqv] at c39
    have HQV : Hid (v.qv = .slice qa p.queue.length qc) := hqv
    clear hn hj hjl htb e0 hqv
    generalize p.queue.length = L at c39 HQV
    have HWo : Hid (∀ k, Calls Tryz.prog 63 #[.slice qa L qc, .int .i64 (n : Int)] (W1.drewN k) fun e w' => LeftQB o w b v 122 #[.int .i64 0, .int .i64 0, .int .i64 0] p v n e w') := fun k => by
      rw [← HQV.out]
      exact withoutQB (HW1.out.below (below_drewN (Below.refl _ W1) k)) HF.out.queue.2 HF.out.queue.1 n
    go_wp2_with fail
    go_region_with (go_at_call 63; refine (HWo.out _).mono ?_; rintro e X5 ⟨ra, m, rc, rfl, k1, k2, k3⟩; rw [HQV.out] at k1; have HN5 : Hid (∃ o2 v2, NowB o w b v 122 #[.int .i64 0, .int .i64 0, .int .i64 0] o2 (X5.setCell ⟨b, 39, none⟩ (.slice ra m rc)) { p with queue := DeskM.left p.queue n } v2) := k3; clear k3)
    all_goals
      obtain ⟨o2, v2, hN2⟩ := HN5.out
      refine name_x (p := fun W => NowB o w b v 122 #[.int .i64 0, .int .i64 0, .int .i64 0] o2 W { p with queue := DeskM.left p.queue n } v2) hN2 ?_
      clear hN2 HN5 HWo c39 ct k1 k2 HW1
      rintro X2 hX2
      obtain ⟨p2, hp2⟩ : ∃ p2 : PM, p2 = { p with queue := DeskM.left p.queue n } := ⟨_, rfl⟩
      rw [← hp2] at hX2
      have HX2 : Hid (NowB o w b v 122 #[.int .i64 0, .int .i64 0, .int .i64 0] o2 X2 p2 v2) := hX2
      have HP2 : Hid (p2 = { p with queue := DeskM.left p.queue n }) := hp2
      have HTS : Hid (v2.ts = v.ts ∧ v2.wb = v.wb ∧ j < p2.tasks.length ∧ i < p2.workers.length ∧ (p2.tasks.getD j task0).tries ≤ 1000000000) := ⟨hX2.now.ts, hX2.now.wb, by subst hp2; exact HNJ.out.2, by subst hp2; exact hi, by subst hp2; exact (HF.out.nums j HNJ.out.2).1⟩
      clear hX2 hp2
      obtain ⟨tk, htk⟩ : ∃ tk, tk = p2.tasks.getD j task0 := ⟨_, rfl⟩
      have htkb : X2.heap[tb]? = some (.cells (taskC j tk (v2.sv.getD j nilV) (v2.tv.getD j nilV)) 128 (0, 0)) := by
        have := HX2.out.now.pd.task HTS.out.2.2.1
        rw [HTS.out.1, ← HTB.out, ← htk] at this
        exact this
      have c1 : X2.cell? ⟨tb, 1, none⟩ = some (.int .i64 tk.state) := by rw [blk_cell htkb]; rfl
      have c2 : X2.cell? ⟨tb, 2, none⟩ = some (.int .i64 (tk.tries : Int)) := by rw [blk_cell htkb]; rfl
      have f1 : ∀ k, X2.frozen? ⟨tb, k, none⟩ = false := fun k => blk_free htkb
      have htr : tk.tries ≤ 1000000000 := by rw [htk]; exact HTS.out.2.2.2.2
      have hwr : IntKind.i64.wrap ((tk.tries : Int) + 1) = (tk.tries : Int) + 1 := by rw [IntKind.wrap_i64]; omega
      have cw : X2.cell? ⟨v.wb, i * 74, none⟩ = some (tkO v2.ts (p2.wk i).ticket) := by have := HX2.out.now.pd.cWkT HTS.out.2.2.2.1; rw [HTS.out.2.1] at this; exact this
      have fw : ∀ k, X2.frozen? ⟨v.wb, k, none⟩ = false := fun k => by have := blk_free (i := k) (HX2.out.now.pd.work nX).2; rw [HTS.out.2.1] at this; exact this
      have hne : ¬ v.wb = tb := by have := blk_ne (HX2.out.now.pd.work nX).2 htkb (by decide); rw [HTS.out.2.1] at this; exact this
      have hne' : ¬ tb = v.wb := fun e => hne e.symm
      have HTKe : Hid (tk = p2.tasks.getD j task0) := htk
      clear htk htkb
      obtain ⟨t2, ht2⟩ : ∃ t2, t2 = { tk with state := 2, tries := tk.tries + 1 } := ⟨_, rfl⟩
      obtain ⟨p3, hp3⟩ : ∃ p3 : PM, p3 = { p2 with tasks := p2.tasks.set j t2, workers := p2.workers.set i { p2.wk i with ticket := n } } := ⟨_, rfl⟩
      have HX3 : Hid (∀ W, W = ((X2.setCell ⟨tb, 1, none⟩ (.int .i64 2)).setCell ⟨tb, 2, none⟩ (.int .i64 ((tk.tries : Int) + 1))).setCell ⟨v.wb, i * 74, none⟩ (.pointer (some ⟨tb, 0, none⟩)) → NowB o w b v 122 #[.int .i64 0, .int .i64 0, .int .i64 0] o2 W p3 v2) := fun W hW => by
        have hjl := HTS.out.2.2.1
        have htk := HTKe.out
        have a1 := HX2.out.now.pd.setTk (i := j) hjl (c := 1) (x := .int .i64 2) (t' := { tk with state := 2 }) (by rw [← htk]; rfl) (by rw [← htk]) (by rw [← htk])
        have e1 : (p2.tasks.set j { tk with state := 2 }).getD j task0 = { tk with state := 2 } := by simp [List.getD, hjl]
        have a2 := a1.1.setTk (i := j) (by simpa using hjl) (c := 2) (x := .int .i64 ((tk.tries : Int) + 1)) (t' := t2) (by simp only [e1]; rw [ht2]; simp only [taskC, natV]; rw [show ((tk.tries + 1 : Nat) : Int) = (tk.tries : Int) + 1 by omega]; rfl) (by simp only [e1]; rw [ht2]) (by simp only [e1]; rw [ht2])
        simp only [List.set_set] at a2
        have a3 := a2.1.wkCell (i := i) HTS.out.2.2.2.1 (c := 0) (by omega) (x := .pointer (some ⟨tb, 0, none⟩)) (a := { p2.wk i with ticket := n }) (by
          show _ :: _ = tkO v2.ts n :: _
          rw [HTS.out.1, HE0.out]
          rfl) rfl
        rw [Nat.add_zero] at a3
        rw [HTS.out.1, ← HTB.out] at a1 a2
        rw [HTS.out.2.1] at a3
        rw [hW, hp3]
        have q1 := HX2.out.step a1 rfl rfl
        have q2 := q1.step a2 rfl rfl
        rw [HTS.out.1, ← HTB.out] at a3
        exact q2.step a3 rfl rfl
      have HP3 : Hid (p3.count = p.count ∧ p3.wk i = { p2.wk i with ticket := n } ∧ i < p3.workers.length ∧ p3.vals = p.vals ∧ { p3 with workers := p3.workers.set i ⟨n, p.count, 2, mo0, p.vals⟩ } = (p.take i).1 ∧ (p.take i).2 = (1, n, 0) ∧ j < p3.tasks.length) := by
        have e2 := HP2.out
        have hil : i < p2.workers.length := HTS.out.2.2.2.1
        have htk := HTKe.out
        have hjl := HTS.out.2.2.1
        refine ⟨by rw [hp3, e2], by rw [hp3]; simp [PM.wk, List.getD, hil], by rw [hp3]; simpa using hil, by rw [hp3, e2], ?_, ?_, by rw [hp3]; simpa using hjl⟩
        · unfold PM.take
          simp only
          rw [← HN.out, if_neg hz, hp3]
          simp only [List.set_set]
          rw [ht2, htk, e2]
          simp only [PM.setTask, PM.task, HNJ.out.1, Nat.add_sub_cancel]
        · unfold PM.take
          simp only
          rw [← HN.out, if_neg hz]
      clear ht2 hp3
      go_wp2_with fail
      refine name_calls (p := fun W => NowB o w b v 122 #[.int .i64 0, .int .i64 0, .int .i64 0] o2 W p3 v2) (HX3.out _ rfl) ?_
      clear HX3 c1 c2 f1 htr hwr cw fw hne hne' HX2
      rintro X3 hX3
      have HX3 : Hid (NowB o w b v 122 #[.int .i64 0, .int .i64 0, .int .i64 0] o2 X3 p3 v2) := hX3
      clear hX3
      refine (count_pd HX3.out.now.pd).mono ?_
      rintro e W4 ⟨rfl, hW⟩
      obtain rfl := hW.symm
      clear hW
      rw [HP3.out.1]
      have cb : X3.cell? ⟨v.wb, i * 74 + 1, none⟩ = some (.int .i64 ((p3.wk i).beg : Int)) := by have := HX3.out.now.pd.cWkB HP3.out.2.2.1; rw [HTS.out.2.1] at this; exact this
      have fb : X3.frozen? ⟨v.wb, i * 74 + 1, none⟩ = false := by have := blk_free (i := i * 74 + 1) (HX3.out.now.pd.work nX).2; rw [HTS.out.2.1] at this; exact this
      obtain ⟨p4, hp4⟩ : ∃ p4 : PM, p4 = { p3 with workers := p3.workers.set i { p3.wk i with beg := p.count } } := ⟨_, rfl⟩
      have HX4 : Hid (∀ W, W = X3.setCell ⟨v.wb, i * 74 + 1, none⟩ (.int .i64 (p.count : Int)) → NowB o w b v 122 #[.int .i64 0, .int .i64 0, .int .i64 0] o2 W p4 v2) := fun W hW => by
        have a := HX3.out.now.pd.wkCell (i := i) HP3.out.2.2.1 (c := 1) (by omega) (x := .int .i64 (p.count : Int)) (a := { p3.wk i with beg := p.count }) rfl rfl
        rw [HTS.out.2.1] at a
        rw [hW, hp4]
        exact HX3.out.step a rfl rfl
      have HP4 : Hid ((p4.wk i).ticket = n ∧ (p4.wk i).beg = p.count ∧ i < p4.workers.length ∧ p4.vals = p.vals ∧ { p4 with workers := p4.workers.set i ⟨n, p.count, 2, mo0, p.vals⟩ } = (p.take i).1 ∧ j < p4.tasks.length) := by
        have hil := HP3.out.2.2.1
        have e : p4.wk i = { p3.wk i with beg := p.count } := by rw [hp4]; simp [PM.wk, List.getD, hil]
        refine ⟨by rw [e, HP3.out.2.1], by rw [e], by rw [hp4]; simpa using hil, by rw [hp4]; exact HP3.out.2.2.2.1, by rw [hp4, ← HP3.out.2.2.2.2.1]; simp only [List.set_set], by rw [hp4]; exact HP3.out.2.2.2.2.2.2⟩
      clear hp4
      go_wp2_with fail
      have hX4 := HX4.out _ rfl
      generalize X3.setCell ⟨v.wb, i * 74 + 1, none⟩ (.int .i64 (p.count : Int)) = X4 at hX4 ⊢
      have HN4 : Hid (NowB o w b v 122 #[.int .i64 0, .int .i64 0, .int .i64 0] o2 X4 p4 v2) := hX4
      clear hX4 HX4 cb fb HX3
      refine wp_ldN (T := 71) b 4 (by rfl) (by rfl) (cs := mapCells p.vals) (by have := HN4.out.now.pd.mapAt; rw [HP4.out.2.2.2.1] at this; exact this) (by exact Tryz.underlying71) (by rfl) (by rw [Tryz.sizeMap, length_mapCells]) ?_
      go_wp2_with fail
      refine (begin_any p.vals X4).mono ?_
      rintro e W5 ⟨rfl, hb5⟩
      have HN5 : Hid (NowB o w b v 122 #[.int .i64 0, .int .i64 0, .int .i64 0] o2 W5 p4 v2) := HN4.out.below hb5
      clear hb5 HN4
      obtain ⟨rs, hrs⟩ : ∃ rs, rs = (engCells 2 mo0 p.vals (.slice none 0 0)).toArray := ⟨_, rfl⟩
      have HR : Hid (rs = (engCells 2 mo0 p.vals (.slice none 0 0)).toArray) := hrs
      obtain ⟨cm, hcm⟩ : ∃ cm, cm = (mapCells p.vals).toArray := ⟨_, rfl⟩
      rw [← hrs, ← hcm]
      clear hrs hcm
      go_wp2
      have hil := HP4.out.2.2.1
      have hbk := HN5.out.now.pd.wblk hil
      rw [HTS.out.2.1, wkC, show ∀ (a : List Value) (x y : Value) (z c : List Value), a ++ (x :: y :: z) ++ c = (a ++ [x, y]) ++ z ++ c from fun a x y z c => by simp] at hbk
      refine wp_stM (T := 105) v.wb (i * 74 + 2) _ _ _ (by rfl) (by rfl) (by rfl) (by exact hbk) (by simp [HN5.out.now.pd.preLen hil]) (by rw [engCells_len (HN5.out.now.pd.wkOk hil).1 (HN5.out.now.pd.wkOk hil).2, HR.out]; rfl) (by rw [HR.out]; exact Tryz.sizeRun) (by rw [HR.out]; exact engCells_one _ _ _ ⟨_, _, _, rfl⟩) ?_
      rintro W6 hW6 hF6
      have HN6 : Hid (NowB o w b v 122 #[.int .i64 0, .int .i64 0, .int .i64 0] o2 W6 (p.take i).1 { v2 with rt := v2.rt.set i nilV }) := by
        have := HN5.out.now.pd.wkRun hil (w1 := W6) (by rw [HTS.out.2.1]; exact hF6) p.vals (by rw [HTS.out.2.1, hW6, HR.out]; rfl)
        rw [HP4.out.1, HP4.out.2.1, HP4.out.2.2.2.2.1] at this
        exact HN5.out.step this rfl rfl
      clear hW6 hF6 hbk HN5
      have ct : W6.cell? ⟨tb, 0, none⟩ = some (.int .i64 (n : Int)) := by
        have := HN6.out.now.pd.cTk (i := j) (by rw [← HP4.out.2.2.2.2.1]; exact HP4.out.2.2.2.2.2) 0
        simp only [HTS.out.1] at this
        rw [← HTB.out] at this
        rw [this, HNJ.out.1]
        rfl
      obtain ⟨z0, z1, z2, zf⟩ : W6.cell? ⟨w.heap.size, 0, none⟩ = some (.int .i64 0) ∧ W6.cell? ⟨w.heap.size, 1, none⟩ = some (.int .i64 0) ∧ W6.cell? ⟨w.heap.size, 2, none⟩ = some (.int .i64 0) ∧ (∀ i, W6.frozen? ⟨w.heap.size, i, none⟩ = false) := ⟨by rw [blk_cell HN6.out.box]; rfl, by rw [blk_cell HN6.out.box]; rfl, by rw [blk_cell HN6.out.box]; rfl, fun _ => blk_free HN6.out.box⟩
      go_wp2
      refine bodyPost_ret (v := noteA (1, n, 0)) (by simp [results, Tryz.results83, go_sem, z0, z1, z2, noteA]) rfl ?_
      refine ⟨by rw [HP3.out.2.2.2.2.2.1], ?_⟩
      exact (((HN6.out.box' 0 _).box' 1 _).box' 2 _).done
theorem pick_pd (h : PD o w b p v) (hF : Fits p) (hR : ∀ i, i < p.workers.length → (p.wk i).ticket ≠ 0 → RunsOk p i) (n : Int) :
    Calls Tryz.prog 59 #[ptrV b, .int .i64 n] w fun e w' => e = .returned (.tuple #[noteA (p.pick n).2.1, .int .i64 (p.pick n).2.2]) ∧ Stp o w b v.ts v.wb (p.pick n).1 w' := by
  have H : Hid (PD o w b p v) := h
  have HF : Hid (Fits p ∧ ∀ i, i < p.workers.length → (p.wk i).ticket ≠ 0 → RunsOk p i) := ⟨hF, hR⟩
  clear hF hR
  unfold ptrV
  by_cases hn : 0 ≤ n ∧ n < p.workers.length
  · obtain ⟨i, rfl⟩ : ∃ i : Nat, n = i := ⟨n.toNat, by omega⟩
    have hi : i < p.workers.length := by omega
    clear h hn
    go_enter Tryz.func59, Tryz.ntmps59
    go_wp2_with fail
    refine name_calls (p := fun W => NowB o w b v 122 #[.int .i64 0, .int .i64 0, .int .i64 0] (cut o w) W p v) (NowB.start H.out) ?_
    rintro W0 hW0
    have HW0 : Hid (NowB o w b v 122 #[.int .i64 0, .int .i64 0, .int .i64 0] (cut o w) W0 p v) := hW0
    clear hW0
    have hWk := worker_yes HW0.out.now.pd hi
    unfold ptrV at hWk
    refine hWk.mono ?_
    clear hWk
    rintro e W1 ⟨rfl, hW⟩
    obtain rfl := hW.symm
    clear hW
    have cw := HW0.out.now.pd.cWkT hi
    by_cases hz : (p.wk i).ticket = 0
    · skip
      rw [hz, show tkO v.ts 0 = .pointer none from rfl] at cw
      have HPk : Hid (p.pick (i : Int) = ((p.take i).1, (p.take i).2, 0)) := by
        show _ = _
        unfold PM.pick
        rw [if_neg (by simpa using hi), Int.toNat_natCast, if_pos hz]
      have hTk := take_pd HW0.out.now.pd HF.out.1 hi
      unfold ptrV at hTk
      go_wp2_with fail
      refine hTk.mono ?_
      clear hTk cw
      rintro e W2 ⟨rfl, hs2⟩
      obtain ⟨o2, v2, hN2⟩ := HW0.out.stp hs2
      have HN2 : Hid (NowB o w b v 122 #[.int .i64 0, .int .i64 0, .int .i64 0] o2 W2 (p.take i).1 v2) := hN2
      clear hs2 hN2
      obtain ⟨z0, z1, z2, zf⟩ : W2.cell? ⟨w.heap.size, 0, none⟩ = some (.int .i64 0) ∧ W2.cell? ⟨w.heap.size, 1, none⟩ = some (.int .i64 0) ∧ W2.cell? ⟨w.heap.size, 2, none⟩ = some (.int .i64 0) ∧ (∀ i, W2.frozen? ⟨w.heap.size, i, none⟩ = false) := ⟨by rw [blk_cell HN2.out.box]; rfl, by rw [blk_cell HN2.out.box]; rfl, by rw [blk_cell HN2.out.box]; rfl, fun _ => blk_free HN2.out.box⟩
      obtain ⟨r, hr⟩ : ∃ r, r = p.take i := ⟨_, rfl⟩
      rw [← hr] at HN2 HPk ⊢
      clear hr
      unfold noteA
      go_wp2
      refine bodyPost_ret (v := .tuple #[noteA r.2, .int .i64 0]) (by simp [results, Tryz.results59, go_sem, z0, z1, z2, noteA]) rfl ?_
      rw [HPk.out]
      exact ⟨rfl, (((HN2.out.box' 0 _).box' 1 _).box' 2 _).done⟩
    · skip
      rw [show tkO v.ts (p.wk i).ticket = .pointer (some ⟨v.ts.getD ((p.wk i).ticket - 1) 0, 0, none⟩) by rw [tkO, if_neg hz]; rfl] at cw
      generalize v.ts.getD ((p.wk i).ticket - 1) 0 = tb at cw
      have HPk : Hid (p.pick (i : Int) = ((p.goOn i).1, (p.goOn i).2, 0)) := by
        show _ = _
        unfold PM.pick
        rw [if_neg (by simpa using hi), Int.toNat_natCast, if_neg hz]
      have hTk := goOn_any HW0.out.now.pd HF.out.1 hi hz (HF.out.2 i hi hz)
      unfold ptrV at hTk
      go_wp2_with fail
      refine hTk.mono ?_
      clear hTk cw
      rintro e W2 ⟨rfl, hs2⟩
      obtain ⟨o2, v2, hN2⟩ := HW0.out.stp hs2
      have HN2 : Hid (NowB o w b v 122 #[.int .i64 0, .int .i64 0, .int .i64 0] o2 W2 (p.goOn i).1 v2) := hN2
      clear hs2 hN2
      obtain ⟨z0, z1, z2, zf⟩ : W2.cell? ⟨w.heap.size, 0, none⟩ = some (.int .i64 0) ∧ W2.cell? ⟨w.heap.size, 1, none⟩ = some (.int .i64 0) ∧ W2.cell? ⟨w.heap.size, 2, none⟩ = some (.int .i64 0) ∧ (∀ i, W2.frozen? ⟨w.heap.size, i, none⟩ = false) := ⟨by rw [blk_cell HN2.out.box]; rfl, by rw [blk_cell HN2.out.box]; rfl, by rw [blk_cell HN2.out.box]; rfl, fun _ => blk_free HN2.out.box⟩
      obtain ⟨r, hr⟩ : ∃ r, r = p.goOn i := ⟨_, rfl⟩
      rw [← hr] at HN2 HPk ⊢
      clear hr
      unfold noteA
      go_wp2
      refine bodyPost_ret (v := .tuple #[noteA r.2, .int .i64 0]) (by simp [results, Tryz.results59, go_sem, z0, z1, z2, noteA]) rfl ?_
      rw [HPk.out]
      exact ⟨rfl, (((HN2.out.box' 0 _).box' 1 _).box' 2 _).done⟩
  · have HPk : Hid (p.pick n = (p, (0, 0, 0), 6)) := by
      show _ = _
      unfold PM.pick
      rw [if_pos (by simpa using hn)]
    have hWn := fun (W : World) (hW : NowB o w b v 122 #[.int .i64 0, .int .i64 0, .int .i64 0] (cut o w) W p v) => worker_no hW.now.pd n hn
    have HWn : Hid (∀ W : World, NowB o w b v 122 #[.int .i64 0, .int .i64 0, .int .i64 0] (cut o w) W p v → Calls Tryz.prog 66 #[.pointer (some ⟨b, 0, none⟩), .int .i64 n] W fun e w' => e = .returned (.pointer none) ∧ w' = W) := fun W hW => hWn W hW
    clear h hn hWn
    go_enter Tryz.func59, Tryz.ntmps59
    go_wp2_with fail
    refine name_calls (p := fun W => NowB o w b v 122 #[.int .i64 0, .int .i64 0, .int .i64 0] (cut o w) W p v) (NowB.start H.out) ?_
    rintro W0 hW0
    have HW0 : Hid (NowB o w b v 122 #[.int .i64 0, .int .i64 0, .int .i64 0] (cut o w) W0 p v) := hW0
    clear hW0
    refine (HWn.out W0 HW0.out).mono ?_
    rintro e W1 ⟨rfl, hW⟩
    obtain rfl := hW.symm
    clear hW
    obtain ⟨z0, z1, z2, zf⟩ : W0.cell? ⟨w.heap.size, 0, none⟩ = some (.int .i64 0) ∧ W0.cell? ⟨w.heap.size, 1, none⟩ = some (.int .i64 0) ∧ W0.cell? ⟨w.heap.size, 2, none⟩ = some (.int .i64 0) ∧ (∀ i, W0.frozen? ⟨w.heap.size, i, none⟩ = false) := ⟨by rw [blk_cell HW0.out.box]; rfl, by rw [blk_cell HW0.out.box]; rfl, by rw [blk_cell HW0.out.box]; rfl, fun _ => blk_free HW0.out.box⟩
    go_wp2
    refine bodyPost_ret (v := .tuple #[noteA (0, 0, 0), .int .i64 6]) (by simp [results, Tryz.results59, go_sem, z0, z1, z2, noteA]) rfl ?_
    rw [HPk.out]
    exact ⟨rfl, (((HW0.out.box' 0 _).box' 1 _).box' 2 _).done⟩
end
end Go.Proofs.YtlbmcdoldnajoaaGreat
