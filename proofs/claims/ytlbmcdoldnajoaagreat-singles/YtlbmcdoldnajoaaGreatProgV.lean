import Derived.Test.YtlbmcdoldnajoaaGreatProgU
namespace Go.Proofs.YtlbmcdoldnajoaaGreat
theorem looked_at {d : DeskM} {i : Nat} (hi0 : (d.wk i).ticket ≠ 0) : wkOf d (d.wk i) = ⟨(d.wk i).ticket, (d.wk i).beg, 2, d.aX (d.wk i), mapF (d.goods.take (d.wk i).beg)⟩ := by
  unfold wkOf
  rw [if_neg hi0]
  rfl
theorem goOn_eq {d : DeskM} (h : DInv d) (u : UInv d) {i : Nat} (hi : i < d.c.workers) (hi0 : (d.wk i).ticket ≠ 0) : (progOf d).goOn i = (progOf (d.goes i).1, (d.goes i).2) := by
  obtain ⟨hn, hs2, hbeg, hdf, hfin, hdone⟩ := h.work i hi hi0
  have hi' : i < d.workers.length := by rw [h.wlen]; exact hi
  have hwi : d.workers.getD i att0 = d.wk i := rfl
  have hax : play (d.job (d.wk i).ticket).steps (mapF (d.goods.take (d.wk i).beg)) (d.wk i).done mo0 = d.aX (d.wk i) := rfl
  have hts : ((progOf d).task (d.wk i).ticket).steps = (d.job (d.wk i).ticket).steps := by
    rw [po_task]; unfold taskOf; simp [hs2]
  unfold PM.goOn DeskM.goes
  simp only [po_wk, looked_at hi0, hwi, hts, hax]
  have hc : (progOf d).c.fuel = d.c.fuel := rfl
  rw [hc]
  unfold nextE
  by_cases hpc : (d.job (d.wk i).ticket).steps.length ≤ (d.aX (d.wk i)).pc
  · rw [if_pos hpc, if_pos hpc]
    simp only
    rw [if_neg (by decide)]
    exact look_eq h u hi hi0 _ (by decide) rfl
  · rw [if_neg hpc, if_neg hpc]
    by_cases hfu : (d.wk i).done = d.c.fuel
    · rw [if_pos (show d.c.fuel ≤ (d.aX (d.wk i)).done by omega), if_pos hfu]
      simp only
      rw [if_neg (by decide)]
      exact look_eq h u hi hi0 _ (by decide) rfl
    · rw [if_neg (show ¬ d.c.fuel ≤ (d.aX (d.wk i)).done by omega), if_neg hfu]
      have hy : play (d.job (d.wk i).ticket).steps (mapF (d.goods.take (d.wk i).beg)) ((d.wk i).done + 1) mo0 = stp ((d.job (d.wk i).ticket).steps.getD (d.aX (d.wk i)).pc stz) (mapF (d.goods.take (d.wk i).beg)) (d.aX (d.wk i)) := by
        rw [play_add, hax, play_go ⟨hfin, by omega⟩, play_zero]
      rw [hy]
      obtain ⟨y, hyy⟩ : ∃ y, y = stp ((d.job (d.wk i).ticket).steps.getD (d.aX (d.wk i)).pc stz) (mapF (d.goods.take (d.wk i).beg)) (d.aX (d.wk i)) := ⟨_, rfl⟩
      rw [← hyy]
      rw [← hyy] at hy
      simp only
      unfold stOf
      by_cases hf : y.fin = 0
      · rw [if_pos hf, if_pos rfl, if_neg (fun h => h hf)]
        refine Prod.ext ?_ rfl
        obtain ⟨e, he⟩ : ∃ e : DeskM, e = { d with workers := d.workers.set i { d.wk i with done := (d.wk i).done + 1 } } := ⟨_, rfl⟩
        show _ = progOf { d with workers := d.workers.set i { d.wk i with done := (d.wk i).done + 1 } }
        rw [← he]
        have hew : e.workers = d.workers.set i { d.wk i with done := (d.wk i).done + 1 } := by rw [he]
        have heg : e.goods = d.goods := by rw [he]
        have hej : ∀ m, e.job m = d.job m := fun m => by rw [he]; rfl
        have hmem : ∀ k, (∀ a ∈ e.workers, a.ticket ≠ 0 → k < a.beg) ↔ (∀ a ∈ d.workers, a.ticket ≠ 0 → k < a.beg) := fun k => by
          rw [hew]
          constructor
          · intro hall a ha h0
            obtain ⟨j, hj, rfl⟩ := wk_at ha
            by_cases e1 : i = j
            · subst e1
              exact hall { d.wk i with done := (d.wk i).done + 1 } (List.mem_set hi' _) hi0
            · refine hall _ ?_ h0
              have hg : (d.workers.set i { d.wk i with done := (d.wk i).done + 1 })[j]'(by simpa using hj) = d.wk j := by rw [List.getElem_set, if_neg e1, wk_get hj]
              rw [← hg]
              exact List.getElem_mem _
          · intro hall a ha h0
            rcases set_mem ha with rfl | ha
            · exact hall (d.wk i) (wk_mem' hi') hi0
            · exact hall a ha h0
        refine PM.eq ?_ ?_ ?_ ?_ ?_ ?_ ?_ ?_
        · rw [he]; rfl
        · rw [he]; rfl
        · rw [he]; rfl
        · show knownOf d.goods (leastD d) = knownOf e.goods (leastD e)
          rw [heg]
          congr 1
          exact leastD_eq fun k => by rw [heg, hmem k]
        · rw [he]; rfl
        · rw [he]; rfl
        · show runU d ++ d.urgent = runU e ++ e.urgent
          have heu : e.urgent = d.urgent := by rw [he]
          rw [heu]
          congr 1
          have : ∀ (l : List AttM) (k : Nat), (hk : k < l.length) → ((l.set k { l[k] with done := l[k].done + 1 }).filter fun a => decide (a.ticket ≠ 0) && (e.job a.ticket).urgent).map (·.ticket) = (l.filter fun a => decide (a.ticket ≠ 0) && (d.job a.ticket).urgent).map (·.ticket) := fun l => by
            have hee : (fun a : AttM => decide (a.ticket ≠ 0) && (e.job a.ticket).urgent) = fun a => decide (a.ticket ≠ 0) && (d.job a.ticket).urgent := by funext a; rw [hej]
            rw [hee]
            induction l with
            | nil => intro k hk; simp at hk
            | cons a r ih =>
              intro k hk
              cases k with
              | zero =>
                simp only [List.set_cons_zero, List.getElem_cons_zero, List.filter_cons]
                split <;> rfl
              | succ k =>
                simp only [List.set_cons_succ, List.getElem_cons_succ, List.filter_cons]
                have := ih k (by simpa using hk)
                split
                · rw [List.map_cons, List.map_cons, this]
                · exact this
          have h2 := this d.workers i hi'
          rw [wk_get hi', ← hew] at h2
          exact h2.symm
        · show (d.workers.map (wkOf d)).set i ⟨(d.wk i).ticket, (d.wk i).beg, 2, y, mapF (d.goods.take (d.wk i).beg)⟩ = e.workers.map (wkOf e)
          rw [po_workers h hew (fun k _ _ _ => ⟨by rw [hej], by rw [heg]⟩)]
          congr 1
          unfold wkOf
          rw [if_neg (show ({ d.wk i with done := (d.wk i).done + 1 } : AttM).ticket ≠ 0 from hi0), heg, hej]
          rw [hy]
      · rw [if_neg hf, if_pos hf]
        have hb := play_fin (d.job (d.wk i).ticket).steps (mapF (d.goods.take (d.wk i).beg)) ((d.wk i).done + 1) mo0 (Or.inl rfl)
        rw [hy] at hb
        rw [if_neg (by omega)]
        exact look_eq h u hi hi0 y (by omega) rfl
theorem pick_eq {d : DeskM} (h : DInv d) (u : UInv d) (i : Int) : (progOf d).pick i = (progOf (d.pick i).1, (d.pick i).2) := by
  unfold PM.pick DeskM.pick
  have hw : decide (0 ≤ i ∧ i < ((progOf d).workers.length : Int)) = d.workerB i := by
    show decide (0 ≤ i ∧ i < (((d.workers.map (wkOf d)).length : Nat) : Int)) = _
    rw [List.length_map, h.wlen]; rfl
  rw [hw]
  cases hB : d.workerB i
  · rfl
  · rw [if_neg (show ¬ (true = false) by decide), if_neg (show ¬ (true = false) by decide), po_wk]
    have hi : i.toNat < d.c.workers := by simp [DeskM.workerB] at hB; omega
    have hwi : d.workers.getD i.toNat att0 = d.wk i.toNat := rfl
    rw [hwi]
    by_cases h0 : (d.wk i.toNat).ticket = 0
    · rw [if_pos (show (wkOf d (d.wk i.toNat)).ticket = 0 by unfold wkOf; rw [if_pos h0]; rfl), if_pos h0, take_eq h hi h0]
    · rw [if_neg (show ¬ (wkOf d (d.wk i.toNat)).ticket = 0 by rw [looked_at h0]; exact h0), if_neg h0, goOn_eq h u hi h0]
theorem kill_eq {d : DeskM} (h : DInv d) (u : UInv d) (i : Int) : (progOf d).kill i = (progOf (d.kill i).1, (d.kill i).2) := by
  unfold PM.kill DeskM.kill
  have hw : decide (0 ≤ i ∧ i < ((progOf d).workers.length : Int)) = d.workerB i := by
    show decide (0 ≤ i ∧ i < (((d.workers.map (wkOf d)).length : Nat) : Int)) = _
    rw [List.length_map, h.wlen]; rfl
  rw [hw]
  cases hB : d.workerB i
  · rfl
  · rw [if_neg (show ¬ (true = false) by decide), if_neg (show ¬ (true = false) by decide)]
    have hi : i.toNat < d.c.workers := by simp [DeskM.workerB] at hB; omega
    have hi' : i.toNat < d.workers.length := by rw [h.wlen]; exact hi
    have hwi : d.workers.getD i.toNat att0 = d.wk i.toNat := rfl
    simp only [hwi, po_wk]
    by_cases h0 : (d.wk i.toNat).ticket = 0
    · rw [if_pos (show (wkOf d (d.wk i.toNat)).ticket = 0 by unfold wkOf; rw [if_pos h0]; rfl), if_pos h0]
    · have htk : (wkOf d (d.wk i.toNat)).ticket = (d.wk i.toNat).ticket := by rw [looked_at h0]
      obtain ⟨hn, hs2, _⟩ := h.work _ hi h0
      rw [htk, if_neg h0, if_neg h0]
      obtain ⟨n, hnn⟩ : ∃ n, n = (d.wk i.toNat).ticket := ⟨_, rfl⟩
      rw [← hnn]
      rw [← hnn] at hn hs2
      refine Prod.ext ?_ rfl
      have hother : ∀ k, k < d.c.workers → k ≠ i.toNat → (d.wk k).ticket ≠ 0 → (d.wk k).ticket ≠ n := fun k hk hki h0' e => hki (h.one k i.toNat hk hi (by rw [e, hnn]) h0')
      have hjob : ∀ {e : DeskM} {j : JobM}, e.jobs = (d.setJob n j).jobs → ∀ m, 1 ≤ m → e.job m = if m = n then j else d.job m := fun {e j} he m hm => by
        have : e.job m = (d.setJob n j).job m := by unfold DeskM.job; rw [he]
        rw [this, job_set hn hm]
      have hE : ∀ {e : DeskM} {j : JobM}, e.jobs = (d.setJob n j).jobs → ∀ k, k < d.c.workers → k ≠ i.toNat → (d.wk k).ticket ≠ 0 → (e.job (d.wk k).ticket).steps = (d.job (d.wk k).ticket).steps ∧ (e.job (d.wk k).ticket).urgent = (d.job (d.wk k).ticket).urgent := fun {e j} he k hk hki h0' => by
        rw [hjob he _ (h.work k hk h0').1.1, if_neg (hother k hk hki h0')]
        exact ⟨rfl, rfl⟩
      have hU : ∀ {e : DeskM} {j : JobM}, e.jobs = (d.setJob n j).jobs → e.workers = d.workers.set i.toNat att0 → runU e = [] := fun {e j} he hw' => runU_nil fun a ha h0' => by
        rw [hw'] at ha
        obtain ⟨k, hk, hka⟩ := List.getElem_of_mem ha
        rw [List.getElem_set] at hka
        by_cases e1 : i.toNat = k
        · rw [if_pos e1] at hka; rw [← hka] at h0'; exact absurd rfl h0'
        · rw [if_neg e1] at hka
          have hk' : k < d.workers.length := by simpa using hk
          rw [wk_get hk'] at hka
          rw [← hka] at h0' ⊢
          have hkc : k < d.c.workers := by rw [← h.wlen]; exact hk'
          rw [(hE he k hkc (fun e => e1 e.symm) h0').2]
          exact u.only hi h0 hkc (fun e => e1 e.symm) h0'
      have htsk : ({ (progOf d).task n with state := 1 } : TaskM) = taskOf { d.job n with state := 1 } := by
        rw [po_task]; unfold taskOf; rw [hs2]; simp
      have hiu : ((progOf d).setTask n { (progOf d).task n with state := 1 }).isUrgent n = (d.job n).urgent := by
        rw [← po_urgent h u hn]
        unfold PM.isUrgent
        have : (((progOf d).setTask n { (progOf d).task n with state := 1 }).task n).failed = ((progOf d).task n).failed := by
          show (((progOf d).tasks.set (n - 1) { (progOf d).task n with state := 1 }).getD (n - 1) task0).failed = _
          rw [htsk, po_set, show task0 = taskOf jobM0 from rfl, map_getD]
          show (taskOf ((d.setJob n _).job n)).failed = _
          rw [job_set hn hn.1, if_pos rfl, po_task]
          rfl
        rw [this]
        rfl
      rw [hiu]
      have hE2 := hE (e := { d with workers := d.workers.set i.toNat att0, jobs := (d.setJob n { d.job n with state := 1 }).jobs }) (j := { d.job n with state := 1 }) rfl
      by_cases hut : (d.job n).urgent = true
      case neg =>
        have hu : (d.job n).urgent = false := by cases e : (d.job n).urgent <;> simp_all
        rw [if_neg hut, if_neg hut]
        refine rest_eq (q := { (progOf d).setTask n { (progOf d).task n with state := 1 } with queue := n :: ((progOf d).setTask n { (progOf d).task n with state := 1 }).queue }) h (e := { d with workers := d.workers.set i.toNat att0, jobs := (d.setJob n { d.job n with state := 1 }).jobs, queue := n :: d.queue }) rfl (Nat.le_refl _) (fun k hk hki h0' => ⟨(hE2 k hk hki h0').1, rfl⟩) (by rfl) (by rfl) (by rfl) (by rfl) (by rfl) ?_ (by rfl) ?_
        · show (progOf d).tasks.set (n - 1) _ = _
          rw [htsk, po_set]
        · show runU d ++ d.urgent = runU _ ++ d.urgent
          rw [hU (e := { d with workers := d.workers.set i.toNat att0, jobs := (d.setJob n { d.job n with state := 1 }).jobs, queue := n :: d.queue }) (j := { d.job n with state := 1 }) rfl rfl, runU_calm h u hi h0 (by rw [← hnn]; exact hu)]
      case pos =>
        have hu := hut
        rw [if_pos hut, if_pos hut]
        refine rest_eq (q := (progOf d).setTask n { (progOf d).task n with state := 1 }) h (e := { d with workers := d.workers.set i.toNat att0, jobs := (d.setJob n { d.job n with state := 1 }).jobs, urgent := n :: d.urgent }) rfl (Nat.le_refl _) (fun k hk hki h0' => ⟨(hE2 k hk hki h0').1, rfl⟩) (by rfl) (by rfl) (by rfl) (by rfl) (by rfl) ?_ (by rfl) ?_
        · show (progOf d).tasks.set (n - 1) _ = _
          rw [htsk, po_set]
        · show runU d ++ d.urgent = runU _ ++ (n :: d.urgent)
          rw [hU (e := { d with workers := d.workers.set i.toNat att0, jobs := (d.setJob n { d.job n with state := 1 }).jobs, urgent := n :: d.urgent }) (j := { d.job n with state := 1 }) rfl rfl, runU_one h u hi h0 (by rw [← hnn]; exact hu), ← hnn]
          rfl
theorem release_none {n : Nat} {p : PM} : ∀ k, (∀ j, j < k → (p.wk j).ticket ≠ n) → PM.release n p k = p
  | 0, _ => rfl
  | k + 1, h => by
    rw [PM.release]
    simp only [release_none k (fun j hj => h j (by omega))]
    rw [if_neg (fun hh => h k (by omega) hh.2)]
theorem rest_wk {p : PM} {i k : Nat} (hki : k ≠ i) : (p.rest i).wk k = p.wk k := by
  show (p.workers.set i wk0).getD k wk0 = p.workers.getD k wk0
  simp [List.getD, Ne.symm hki]
theorem release_one {n : Nat} {p : PM} {i : Nat} (hn : n ≠ 0) (hi : (p.wk i).ticket = n) (ho : ∀ j, j ≠ i → (p.wk j).ticket ≠ n) : ∀ k, i < k → PM.release n p k = p.rest i
  | 0, h => by omega
  | k + 1, h => by
    rw [PM.release]
    by_cases e : k = i
    · subst e
      simp only [release_none k (fun j hj => ho j (by omega))]
      rw [if_pos ⟨by rw [hi]; exact hn, hi⟩]
    · simp only [release_one hn hi ho k (by omega)]
      rw [if_neg (fun hh => ho k e (by rw [rest_wk e] at hh; exact hh.2))]
theorem cancel_eq {d : DeskM} (h : DInv d) (n : Int) : (progOf d).cancel n = (progOf (d.cancel n).1, (d.cancel n).2) := by
  unfold PM.cancel DeskM.cancel
  have hw : decide (1 ≤ n ∧ n ≤ ((progOf d).tasks.length : Int)) = d.ticketB n := by
    show decide (1 ≤ n ∧ n ≤ (((d.jobs.map taskOf).length : Nat) : Int)) = _
    rw [List.length_map]; rfl
  rw [hw]
  cases hB : d.ticketB n
  · rfl
  · rw [if_neg (show ¬ (true = false) by decide), if_neg (show ¬ (true = false) by decide)]
    have hn : d.Has n.toNat := by simp [DeskM.ticketB] at hB; unfold DeskM.Has; omega
    obtain ⟨m, hm⟩ : ∃ m, m = n.toNat := ⟨_, rfl⟩
    rw [← hm]
    rw [← hm] at hn
    have hjs := (h.jobs m hn).2
    rw [po_task]
    have hts : (taskOf (d.job m)).state = (d.job m).state := rfl
    rw [hts]
    by_cases h2 : 2 < (d.job m).state
    · rw [if_pos ⟨by omega, by omega⟩, if_pos h2]
    · rw [if_neg (by omega), if_neg h2]
      refine Prod.ext ?_ rfl
      have hm0 : m ≠ 0 := by have := hn.1; omega
      obtain ⟨e, he⟩ : ∃ e : DeskM, e = { d.setJob m { d.job m with state := 6 } with queue := DeskM.left d.queue m, urgent := DeskM.left d.urgent m, workers := d.workers.map fun a => if a.ticket = m then att0 else a } := ⟨_, rfl⟩
      show PM.release _ _ _ = progOf _
      rw [← he]
      have hej : ∀ k, 1 ≤ k → e.job k = if k = m then { d.job m with state := 6 } else d.job k := fun k hk => by
        have : e.job k = (d.setJob m { d.job m with state := 6 }).job k := by rw [he]; rfl
        rw [this, job_set hn hk]
      have hst : ∀ k, 1 ≤ k → (e.job k).steps = (d.job k).steps ∧ (e.job k).urgent = (d.job k).urgent := fun k hk => by
        rw [hej k hk]
        by_cases e1 : k = m
        · rw [if_pos e1, e1]; exact ⟨rfl, rfl⟩
        · rw [if_neg e1]; exact ⟨rfl, rfl⟩
      have htsk : ({ taskOf (d.job m) with state := 6, steps := [] } : TaskM) = taskOf { d.job m with state := 6 } := by
        unfold taskOf; simp
      have hrun : ∀ l : List AttM, (∀ a ∈ l, a.ticket ≠ 0 → 1 ≤ a.ticket) → ((l.map fun a => if a.ticket = m then att0 else a).filter fun a => decide (a.ticket ≠ 0) && (e.job a.ticket).urgent).map (·.ticket) = DeskM.left ((l.filter fun a => decide (a.ticket ≠ 0) && (d.job a.ticket).urgent).map (·.ticket)) m := fun l => by
        induction l with
        | nil => intro _; rfl
        | cons a r ih =>
          intro hl
          have ihr := ih (fun b hb => hl b (by simp [hb]))
          rw [List.map_cons, List.filter_cons, List.filter_cons]
          by_cases e1 : a.ticket = m
          · rw [if_pos e1]
            rw [if_neg (by simp [att0]), ihr]
            split
            · rw [List.map_cons]; unfold DeskM.left; rw [List.filter_cons, if_neg (by simp [e1])]
            · rfl
          · rw [if_neg e1]
            by_cases e0 : a.ticket = 0
            · rw [if_neg (by simp [e0]), if_neg (by simp [e0]), ihr]
            · rw [(hst _ (hl a (by simp) e0)).2]
              split
              · rw [List.map_cons, List.map_cons, ihr]; unfold DeskM.left; rw [List.filter_cons, if_pos (decide_eq_true e1)]
              · exact ihr
      have hru : runU e = DeskM.left (runU d) m := by
        have := hrun d.workers (fun a _ h0 => by omega)
        unfold runU
        rw [← this, he]
      have hleft : ∀ a b : List Nat, DeskM.left (a ++ b) m = DeskM.left a m ++ DeskM.left b m := fun a b => by unfold DeskM.left; rw [List.filter_append]
      obtain ⟨q, hq⟩ : ∃ q : PM, q = { (progOf d).setTask m { taskOf (d.job m) with state := 6, steps := [] } with queue := DeskM.left d.queue m, urgent := DeskM.left (progOf d).urgent m } := ⟨_, rfl⟩
      show PM.release m { (progOf d).setTask m { taskOf (d.job m) with state := 6, steps := [] } with queue := DeskM.left d.queue m, urgent := DeskM.left (progOf d).urgent m } (progOf d).workers.length = progOf e
      rw [← hq]
      have hqw : ∀ k, q.wk k = wkOf d (d.wk k) := fun k => by rw [← po_wk, hq]; rfl
      have hqt : q.tasks = e.jobs.map taskOf := by
        rw [hq]
        show (progOf d).tasks.set (m - 1) _ = _
        rw [htsk, po_set, he]
      have hqu : q.urgent = runU e ++ e.urgent := by
        rw [hq, hru]
        show DeskM.left (runU d ++ d.urgent) m = _
        rw [hleft, he]
      have hwk0 : ∀ k, (wkOf d (d.wk k)).ticket = (d.wk k).ticket := fun k => by
        by_cases h0 : (d.wk k).ticket = 0
        · unfold wkOf; rw [if_pos h0, h0]; rfl
        · rw [looked_at h0]
      by_cases hw2 : ∃ i, i < d.c.workers ∧ (d.wk i).ticket = m
      · obtain ⟨i, hi, hti⟩ := hw2
        have hi' : i < d.workers.length := by rw [h.wlen]; exact hi
        have hoth : ∀ j, j ≠ i → (d.wk j).ticket ≠ m := fun j hj hjm => by
          by_cases hjc : j < d.c.workers
          · exact hj (h.one j i hjc hi (by rw [hjm, hti]) (by rw [hjm]; exact hm0))
          · have : d.wk j = att0 := by simp [DeskM.wk, List.getD, List.getElem?_eq_none (show d.workers.length ≤ j by rw [h.wlen]; omega)]
            rw [this] at hjm; exact hm0 hjm.symm
        rw [release_one hm0 (i := i) (by rw [hqw, hwk0]; exact hti) (fun j hj => by rw [hqw, hwk0]; exact hoth j hj) _ (by show i < (d.workers.map (wkOf d)).length; rw [List.length_map]; exact hi')]
        have hew : e.workers = d.workers.set i att0 := by
          rw [he]
          refine List.ext_getElem (by simp) (fun k h1 h2 => ?_)
          have hk : k < d.workers.length := by simpa using h1
          rw [List.getElem_map, List.getElem_set, wk_get hk]
          by_cases e1 : i = k
          · rw [if_pos e1, if_pos (by rw [← e1]; exact hti)]
          · rw [if_neg e1, if_neg (hoth k (fun e => e1 e.symm))]
        refine rest_eq h hew (by rw [he]; exact Nat.le_refl _) (fun k hk _ h0 => ⟨(hst _ (h.work k hk h0).1.1).1, by rw [he]; rfl⟩) (by rw [hq]; rfl) (by rw [hq, he]; rfl) (by rw [hq, he]; rfl) (by rw [hq, he]; rfl) (by rw [hq, he]; rfl) hqt (by rw [hq, he]) hqu
      · have hno : ∀ j, (d.wk j).ticket ≠ m := fun j hjm => by
          by_cases hjc : j < d.c.workers
          · exact hw2 ⟨j, hjc, hjm⟩
          · have : d.wk j = att0 := by simp [DeskM.wk, List.getD, List.getElem?_eq_none (show d.workers.length ≤ j by rw [h.wlen]; omega)]
            rw [this] at hjm; exact hm0 hjm.symm
        rw [release_none _ (fun j _ => by rw [hqw, hwk0]; exact hno j)]
        have hew : e.workers = d.workers := by
          rw [he]
          show (d.workers.map fun a => if a.ticket = m then att0 else a) = d.workers
          refine (List.map_congr_left (g := id) fun a ha => ?_).trans (List.map_id _)
          obtain ⟨k, hk, rfl⟩ := wk_at ha
          rw [if_neg (hno k)]; rfl
        have heg : e.goods = d.goods := by rw [he]; rfl
        have hww : e.workers.map (wkOf e) = d.workers.map (wkOf d) := by
          rw [hew]
          refine List.map_congr_left fun a ha => ?_
          obtain ⟨k, hk, rfl⟩ := wk_at ha
          exact wkOf_congr fun h0 => ⟨(hst _ (h.work k (by rw [← h.wlen]; exact hk) h0).1.1).1, by rw [heg]⟩
        refine PM.eq (by rw [hq, he]; rfl) (by rw [hq, he]; rfl) (by rw [hq, he]; rfl) ?_ hqt (by rw [hq, he]; rfl) hqu (by rw [hq]; exact hww.symm)
        rw [hq]
        show knownOf d.goods (leastD d) = knownOf e.goods (leastK (e.workers.map (wkOf e)) e.goods.length)
        rw [hww, heg]; rfl
end Go.Proofs.YtlbmcdoldnajoaaGreat
