import Derived.Test.YtlbmcdoldnajoaaGreatProgT
namespace Go.Proofs.YtlbmcdoldnajoaaGreat
theorem nodup_head {l : List Nat} {n : Nat} (h : l.getD 0 0 = n) (hn : n ≠ 0) : ∃ r, l = n :: r := by
  cases l with
  | nil => exact absurd h.symm hn
  | cons a r => exact ⟨r, by rw [← h]; rfl⟩
theorem take_eq {d : DeskM} (h : DInv d) {i : Nat} (hi : i < d.c.workers) (hi0 : (d.wk i).ticket = 0) : (progOf d).take i = (progOf (d.taken i).1, (d.taken i).2) := by
  unfold PM.take DeskM.taken
  simp only [po_next h]
  by_cases hn0 : d.nextJob = 0
  · rw [if_pos hn0, if_pos hn0]
  · rw [if_neg hn0, if_neg hn0]
    have hcase := next_case hn0
    have hnx : d.nextJob = if (d.hurry && d.idle) = true then d.urgent.getD 0 0 else if d.hurry = false then d.queue.getD 0 0 else 0 := rfl
    obtain ⟨n, hnn⟩ : ∃ n, n = d.nextJob := ⟨_, rfl⟩
    rw [← hnn] at hcase hn0 hnx ⊢
    have hn : d.Has n := by
      rcases hcase with ⟨_, _, hm⟩ | ⟨_, hm⟩
      · exact ((h.urM n).1 hm).1
      · exact ((h.quM n).1 hm).1
    have hst : (d.job n).state = 1 := by
      rcases hcase with ⟨_, _, hm⟩ | ⟨_, hm⟩
      · exact ((h.urM n).1 hm).2.1
      · exact ((h.quM n).1 hm).2.1
    obtain ⟨e, he⟩ : ∃ e : DeskM, e = { d.setJob n { d.job n with state := 2, tries := (d.job n).tries + 1 } with queue := DeskM.left d.queue n, urgent := DeskM.left d.urgent n, workers := d.workers.set i ⟨n, d.goods.length, 0⟩ } := ⟨_, rfl⟩
    rw [← he]
    have hej : ∀ m, 1 ≤ m → e.job m = if m = n then { d.job n with state := 2, tries := (d.job n).tries + 1 } else d.job m := fun m hm => by
      have : e.job m = (d.setJob n { d.job n with state := 2, tries := (d.job n).tries + 1 }).job m := by rw [he]; rfl
      rw [this, job_set hn hm]
    have hsteps : ∀ m, 1 ≤ m → (e.job m).steps = (d.job m).steps ∧ (e.job m).urgent = (d.job m).urgent := fun m hm => by
      rw [hej m hm]
      by_cases e1 : m = n
      · rw [if_pos e1, e1]; exact ⟨rfl, rfl⟩
      · rw [if_neg e1]; exact ⟨rfl, rfl⟩
    have hew : e.workers = d.workers.set i ⟨n, d.goods.length, 0⟩ := by rw [he]
    have heg : e.goods = d.goods := by rw [he]; rfl
    have hi' : i < d.workers.length := by rw [h.wlen]; exact hi
    have hwe : wkOf e ⟨n, d.goods.length, 0⟩ = ⟨n, d.goods.length, 2, mo0, mapF d.goods⟩ := by
      unfold wkOf
      rw [if_neg (show (⟨n, d.goods.length, 0⟩ : AttM).ticket ≠ 0 from hn0), heg]
      simp only [List.take_length]
      rfl
    refine Prod.ext ?_ rfl
    refine PM.eq ?_ ?_ ?_ ?_ ?_ ?_ ?_ ?_
    · rw [he]; rfl
    · rw [he]; rfl
    · rw [he]; rfl
    · show knownOf d.goods (leastD d) = knownOf e.goods (leastD e)
      rw [heg]
      congr 1
      refine leastD_eq fun k => ?_
      rw [heg, hew]
      constructor
      · rintro ⟨h1, h2⟩
        refine ⟨h1, fun a ha h0 => ?_⟩
        rcases set_mem ha with rfl | ha
        · exact h1
        · exact h2 a ha h0
      · rintro ⟨h1, h2⟩
        refine ⟨h1, fun a ha h0 => ?_⟩
        obtain ⟨k', hk', rfl⟩ := wk_at ha
        have hne : i ≠ k' := fun e => h0 (e ▸ hi0)
        refine h2 _ ?_ h0
        have hg : (d.workers.set i ⟨n, d.goods.length, 0⟩)[k']'(by simpa using hk') = d.wk k' := by rw [List.getElem_set, if_neg hne, wk_get hk']
        rw [← hg]
        exact List.getElem_mem _
    · show ((progOf d).tasks.set (n - 1) { (progOf d).task n with state := 2, tries := ((progOf d).task n).tries + 1 }) = e.jobs.map taskOf
      rw [po_task]
      have : ({ taskOf (d.job n) with state := 2, tries := (taskOf (d.job n)).tries + 1 } : TaskM) = taskOf { d.job n with state := 2, tries := (d.job n).tries + 1 } := by
        unfold taskOf
        simp [hst]
      rw [this, po_set, he]
    · rw [he]; rfl
    · show runU d ++ d.urgent = runU e ++ e.urgent
      have heu : e.urgent = DeskM.left d.urgent n := by rw [he]
      rw [heu]
      rcases hcase with ⟨hh, hid, hm⟩ | ⟨hh, hm⟩
      · have hidle : ∀ k, k < d.workers.length → (d.wk k).ticket = 0 := fun k hk => Classical.byContradiction fun h0 => by
          have hw := h.work k (by rw [← h.wlen]; exact hk) h0
          rw [idle_no hw.1 hw.2.1] at hid; cases hid
        rw [runU_idle hidle, List.nil_append]
        rw [hh, hid] at hnx
        obtain ⟨r, hr⟩ := nodup_head hnx.symm hn0
        have hd := h.urD
        rw [hr] at hd ⊢
        rw [left_head hd]
        have hew' : i < e.workers.length := by rw [hew]; simpa using hi'
        have hewk : ∀ k, e.wk k = if k = i then ⟨n, d.goods.length, 0⟩ else d.wk k := fun k => by
          show e.workers.getD k att0 = _
          rw [hew]; exact wk_set hi' _ k
        have : runU e = [n] := by
          unfold runU
          rw [filter_one hew' ?_ ?_]
          · rw [wk_get, hewk, if_pos rfl]; rfl
          · rw [wk_get, hewk, if_pos rfl]
            show (decide (n ≠ 0) && (e.job n).urgent) = true
            rw [decide_eq_true hn0, (hsteps n hn.1).2, ((h.urM n).1 hm).2.2]; rfl
          · intro k hk hki
            rw [wk_get, hewk, if_neg hki, hidle k (by rw [hew] at hk; simpa using hk)]
            rfl
        rw [this]; rfl
      · have hnil : runU d ++ d.urgent = [] := Classical.byContradiction fun hc => by rw [(po_hurry h).2 hc] at hh; cases hh
        have hnil' := List.append_eq_nil_iff.1 hnil
        rw [hnil, hnil'.2]
        have : runU e = [] := by
          refine runU_nil fun a ha h0 => ?_
          rw [hew] at ha
          rcases set_mem ha with rfl | ha
          · show (e.job n).urgent = false
            rw [(hsteps n hn.1).2]; exact ((h.quM n).1 hm).2.2
          · obtain ⟨k, hk, rfl⟩ := wk_at ha
            have hw := h.work k (by rw [← h.wlen]; exact hk) h0
            rw [(hsteps _ hw.1.1).2]
            cases hu : (d.job (d.wk k).ticket).urgent
            · rfl
            · have := hurry_yes hw.1 (by have := hw.2.1; omega) hu
              rw [hh] at this; cases this
        rw [this]; rfl
    · show (d.workers.map (wkOf d)).set i ⟨n, d.goods.length, 2, mo0, mapF d.goods⟩ = e.workers.map (wkOf e)
      rw [po_workers h hew (fun k hk hki h0 => ⟨(hsteps _ (h.work k hk h0).1.1).1, by rw [heg]⟩), hwe]
theorem wroteL_none : DeskM.wroteL (fun _ => none) = List.replicate 16 false := rfl
theorem see_none (m : Int → Int) : see m (fun _ => none) = m := rfl
theorem knOf_app {gs : List GoodM} {t : GoodM} {u : Nat} (hu : u < gs.length) : knOf (gs ++ [t]) u = knOf gs u := by
  have hg : ∀ v, v ≤ u → (gs ++ [t]).getD v good0 = gs.getD v good0 := fun v hv => by
    simp only [List.getD]; rw [List.getElem?_append_left (by omega)]
  unfold knOf
  rw [hg u (Nat.le_refl _)]
  congr 1
  unfold missedOf
  rw [hg u (Nat.le_refl _)]
  congr 1
  have : ∀ l : List Nat, (∀ v ∈ l, v ≤ u) → (l.find? fun v => decide ((gs.getD u good0).beg ≤ v) && DeskM.share (DeskM.wroteL ((gs ++ [t]).getD v good0).puts) (gs.getD u good0).read) = (l.find? fun v => decide ((gs.getD u good0).beg ≤ v) && DeskM.share (DeskM.wroteL (gs.getD v good0).puts) (gs.getD u good0).read) := fun l => by
    induction l with
    | nil => intro _; rfl
    | cons a r ih => intro hl; rw [List.find?_cons, List.find?_cons, hg a (hl a (by simp)), ih (fun v hv => hl v (by simp [hv]))]
  exact this _ (fun v hv => by have := List.mem_range.1 hv; omega)
theorem knOf_new (gs : List GoodM) (t : GoodM) {n : Nat} (hn : n ≤ t.beg) : knOf (gs ++ [t]) gs.length = ⟨atOf t, gs.length + 1, missedK (atOf t) (knownOf gs n)⟩ := by
  have hg : (gs ++ [t]).getD gs.length good0 = t := by simp [List.getD]
  have hg' : ∀ v, v < gs.length → (gs ++ [t]).getD v good0 = gs.getD v good0 := fun v hv => by
    simp only [List.getD]; rw [List.getElem?_append_left (by omega)]
  rw [missedK_eq gs t hn]
  unfold knOf missedOf
  rw [hg]
  congr 2
  have : ∀ l : List Nat, (∀ v ∈ l, v < gs.length) → (l.find? fun v => decide (t.beg ≤ v) && DeskM.share (DeskM.wroteL ((gs ++ [t]).getD v good0).puts) t.read) = (l.find? fun v => decide (t.beg ≤ v) && DeskM.share (DeskM.wroteL (gs.getD v good0).puts) t.read) := fun l => by
    induction l with
    | nil => intro _; rfl
    | cons a r ih => intro hl; rw [List.find?_cons, List.find?_cons, hg' a (hl a (by simp)), ih (fun v hv => hl v (by simp [hv]))]
  exact this _ (fun v hv => List.mem_range.1 hv)
theorem known_app {gs : List GoodM} {t : GoodM} {n : Nat} (hn : n ≤ gs.length) (hb : n ≤ t.beg) : knownOf (gs ++ [t]) n = knownOf gs n ++ [⟨atOf t, gs.length + 1, missedK (atOf t) (knownOf gs n)⟩] := by
  unfold knownOf
  rw [List.length_append, List.length_singleton, List.range_succ, List.filter_append, List.map_append]
  congr 1
  · refine List.map_congr_left fun u hu => ?_
    exact knOf_app (List.mem_range.1 (List.mem_filter.1 hu).1)
  · rw [List.filter_cons, if_pos (decide_eq_true (by omega))]
    show [knOf (gs ++ [t]) gs.length] = _
    rw [knOf_new gs t hb]
    rfl
theorem rest_eq {d e : DeskM} {q : PM} (h : DInv d) {i : Nat} (he : e.workers = d.workers.set i att0) (hgl : d.goods.length ≤ e.goods.length)
    (hj : ∀ k, k < d.c.workers → k ≠ i → (d.wk k).ticket ≠ 0 → (e.job (d.wk k).ticket).steps = (d.job (d.wk k).ticket).steps ∧ e.goods.take (d.wk k).beg = d.goods.take (d.wk k).beg)
    (hq : q.workers.set i wk0 = (d.workers.map (wkOf d)).set i wk0) (hqc : q.count = e.goods.length) (hqk : q.known = knownOf e.goods (leastD d))
    (h1 : q.c = e.c) (h2 : q.vals = mapF e.goods) (h5 : q.tasks = e.jobs.map taskOf) (h6 : q.queue = e.queue) (h7 : q.urgent = runU e ++ e.urgent) : q.rest i = progOf e := by
  have hw : q.workers.set i wk0 = e.workers.map (wkOf e) := by rw [hq, po_workers h he hj]; rfl
  have hle : leastD d ≤ leastD e := leastD_mono hgl (fun a ha h0 => by
    rw [he] at ha
    rcases set_mem ha with rfl | ha
    · exact absurd rfl h0
    · exact ha)
  refine PM.eq h1 h2 hqc ?_ h5 h6 h7 hw
  show forgetK (leastK (q.workers.set i wk0) q.count) q.known = knownOf e.goods (leastD e)
  rw [hw, hqc, hqk]
  exact forget_known hle
theorem gd_ticket {d : DeskM} (h : DInv d) (u : Nat) (hu : u < d.goods.length) : (d.goods.getD u good0).ticket ≠ 0 := by
  have := (h.g.gjob u hu).1.1
  show (gAt d.goods u).ticket ≠ 0
  omega
theorem look_eq {d : DeskM} (h : DInv d) (u : UInv d) {i : Nat} (hi : i < d.c.workers) (hi0 : (d.wk i).ticket ≠ 0) (x : Mo) {state : Int} (hst : 3 ≤ state) {m : Int → Int} {p : PM}
    (hp : p = { progOf d with workers := (progOf d).workers.set i ⟨(d.wk i).ticket, (d.wk i).beg, state, x, m⟩ }) : p.look i = (progOf (d.looked i x state).1, (d.looked i x state).2) := by
  obtain ⟨hn, hs2, hbeg, _⟩ := h.work i hi hi0
  have hi' : i < d.workers.length := by rw [h.wlen]; exact hi
  have hmem := wk_mem' hi'
  have hpw : p.wk i = ⟨(d.wk i).ticket, (d.wk i).beg, state, x, m⟩ := by
    rw [hp]
    show ((d.workers.map (wkOf d)).set i _).getD i wk0 = _
    simp [List.getD, hi']
  have hpt : ∀ n, p.task n = taskOf (d.job n) := fun n => by rw [← po_task, hp]; rfl
  have hwi : d.workers.getD i att0 = d.wk i := rfl
  obtain ⟨t, ht⟩ : ∃ t : GoodM, t = ⟨(d.wk i).ticket, (d.wk i).beg, x.read, if state = 3 then x.puts else fun _ => none⟩ := ⟨_, rfl⟩
  have hat : p.attempt i = atOf t := by
    unfold PM.attempt
    rw [hpw, ht]
    show (⟨_, _, _, _⟩ : AtM) = ⟨_, _, _, _⟩
    congr 1
    by_cases e : state = 3
    · simp [e]
    · simp only [e, if_false]; exact wroteL_none.symm
  have hpk : p.known = knownOf d.goods (leastD d) := by rw [hp]; rfl
  have hlb : leastD d ≤ t.beg := by rw [ht]; exact leastD_le hmem hi0
  have hP := partnerK_eq d (gd_ticket h) t hlb
  have hpart : DeskM.partner { d with workers := d.workers.set i att0 } t = d.partner t := rfl
  have hother : ∀ k, k < d.c.workers → k ≠ i → (d.wk k).ticket ≠ 0 → (d.wk k).ticket ≠ (d.wk i).ticket := fun k hk hki h0 e => hki (h.one k i hk hi e h0)
  have hqw : p.workers.set i wk0 = (d.workers.map (wkOf d)).set i wk0 := by rw [hp]; show ((d.workers.map (wkOf d)).set i _).set i wk0 = _; rw [List.set_set]
  obtain ⟨n, hnn⟩ : ∃ n, n = (d.wk i).ticket := ⟨_, rfl⟩
  have hjob : ∀ {e : DeskM} {j : JobM}, e.jobs = (d.setJob n j).jobs → ∀ m, 1 ≤ m → e.job m = if m = n then j else d.job m := fun {e j} he m hm => by
    have : e.job m = (d.setJob n j).job m := by unfold DeskM.job; rw [he]
    rw [this, job_set (by rw [hnn]; exact hn) hm]
  unfold PM.look DeskM.looked
  simp only [hwi]
  rw [hat, hpk, ← ht, hpart]
  have hE : ∀ {e : DeskM} {j : JobM}, e.jobs = (d.setJob n j).jobs → ∀ k, k < d.c.workers → k ≠ i → (d.wk k).ticket ≠ 0 → (e.job (d.wk k).ticket).steps = (d.job (d.wk k).ticket).steps ∧ (e.job (d.wk k).ticket).urgent = (d.job (d.wk k).ticket).urgent := fun {e j} he k hk hki h0 => by
    rw [hjob he _ (h.work k hk h0).1.1, if_neg (by rw [hnn]; exact hother k hk hki h0)]
    exact ⟨rfl, rfl⟩
  -- none that runs behind it is urgent
  have hU : ∀ {e : DeskM} {j : JobM}, e.jobs = (d.setJob n j).jobs → e.workers = d.workers.set i att0 → runU e = [] := fun {e j} he hw => runU_nil fun a ha h0 => by
    rw [hw] at ha
    obtain ⟨k, hk, hka⟩ := List.getElem_of_mem ha
    rw [List.getElem_set] at hka
    by_cases e1 : i = k
    · rw [if_pos e1] at hka; rw [← hka] at h0; exact absurd rfl h0
    · rw [if_neg e1] at hka
      have hk' : k < d.workers.length := by simpa using hk
      rw [wk_get hk'] at hka
      rw [← hka] at h0 ⊢
      have hkc : k < d.c.workers := by rw [← h.wlen]; exact hk'
      rw [(hE he k hkc (fun e => e1 e.symm) h0).2]
      exact u.only hi hi0 hkc (fun e => e1 e.symm) h0
  by_cases hc : d.partner t ≠ 0
  · rw [if_pos (hP.1.2 hc), if_pos hc]
    have hu : (d.job n).urgent = false := by
      cases e : (d.job n).urgent
      · rfl
      · have hb := (u.alone i hi hi0 (by rw [← hnn]; exact e)).1
        exact absurd (no_later (d := d) (t := t) (by rw [ht]; exact hb)) hc
    have hrd : runU d = [] := runU_calm h u hi hi0 (by rw [← hnn]; exact hu)
    rw [hP.2 hc]
    have hjj : DeskM.job { d with workers := d.workers.set i att0 } n = d.job n := rfl
    have hgood : ∀ k, DeskM.good { d with workers := d.workers.set i att0 } k = d.good k := fun _ => rfl
    rw [hgood, ← hnn]
    unfold DeskM.failedJ PM.retry
    simp only [hjj]
    have hpn : (p.wk i).ticket = n := by rw [hpw, hnn]
    rw [hpn]
    have htsk : ∀ b, ({ p.task n with state := 1, failed := (p.task n).failed + 1 } : TaskM) = taskOf { d.job n with state := 1, failed := (d.job n).failed + 1, urgent := b } := fun b => by
      rw [hpt]; unfold taskOf; rw [hnn, hs2]; simp
    have hpts : ∀ j, p.tasks.set (n - 1) (taskOf j) = (d.setJob n j).jobs.map taskOf := fun j => by rw [← po_set, hp]
    have hiu : (p.setTask n { p.task n with state := 1, failed := (p.task n).failed + 1 }).isUrgent n = decide (d.c.patience < (d.job n).failed + 1) := by
      unfold PM.isUrgent
      have : (p.setTask n { p.task n with state := 1, failed := (p.task n).failed + 1 }).task n = taskOf { d.job n with state := 1, failed := (d.job n).failed + 1, urgent := false } := by
        show (p.tasks.set (n - 1) { p.task n with state := 1, failed := (p.task n).failed + 1 }).getD (n - 1) task0 = _
        rw [htsk false, hpts, show task0 = taskOf jobM0 from rfl, map_getD]
        show taskOf ((d.setJob n _).job n) = _
        rw [job_set (by rw [hnn]; exact hn) (by rw [hnn]; exact hn.1), if_pos rfl]
      rw [this, hp]
      rfl
    rw [hiu]
    have htk : (atOf t).ticket = n := by rw [ht, hnn]; rfl
    rw [htk]
    by_cases hpat : d.c.patience < (d.job n).failed + 1
    · rw [decide_eq_true hpat, if_pos rfl, if_pos (show (DeskM.c { d with workers := d.workers.set i att0 }).patience < (d.job n).failed + 1 from hpat)]
      refine Prod.ext ?_ rfl
      refine rest_eq h (e := { d with workers := d.workers.set i att0, jobs := (d.setJob n { d.job n with state := 1, failed := (d.job n).failed + 1, urgent := true }).jobs, urgent := d.urgent ++ [n] }) rfl (Nat.le_refl _) (fun k hk hki h0 => ⟨(hE rfl k hk hki h0).1, rfl⟩) hqw (by rw [hp]; rfl) (by rw [hp]; rfl) (by rw [hp]; rfl) (by rw [hp]; rfl) ?_ (by rw [hp]; rfl) ?_
      · show p.tasks.set (n - 1) _ = _
        rw [htsk true, hpts]
      · show p.urgent ++ [n] = runU _ ++ (d.urgent ++ [n])
        rw [hU (e := { d with workers := d.workers.set i att0, jobs := (d.setJob n { d.job n with state := 1, failed := (d.job n).failed + 1, urgent := true }).jobs, urgent := d.urgent ++ [n] }) (j := { d.job n with state := 1, failed := (d.job n).failed + 1, urgent := true }) rfl rfl, hp]
        show (runU d ++ d.urgent) ++ [n] = _
        rw [hrd]; rfl
    · rw [decide_eq_false hpat, if_neg (by decide), if_neg (show ¬ (DeskM.c { d with workers := d.workers.set i att0 }).patience < (d.job n).failed + 1 from hpat)]
      refine Prod.ext ?_ rfl
      refine rest_eq h (e := { d with workers := d.workers.set i att0, jobs := (d.setJob n { d.job n with state := 1, failed := (d.job n).failed + 1 }).jobs, queue := d.queue ++ [n] }) rfl (Nat.le_refl _) (fun k hk hki h0 => ⟨(hE rfl k hk hki h0).1, rfl⟩) hqw (by rw [hp]; rfl) (by rw [hp]; rfl) (by rw [hp]; rfl) (by rw [hp]; rfl) ?_ (by rw [hp]; rfl) ?_
      · show p.tasks.set (n - 1) _ = _
        rw [htsk (d.job n).urgent, hpts]
      · show p.urgent = runU _ ++ d.urgent
        rw [hU (e := { d with workers := d.workers.set i att0, jobs := (d.setJob n { d.job n with state := 1, failed := (d.job n).failed + 1 }).jobs, queue := d.queue ++ [n] }) (j := { d.job n with state := 1, failed := (d.job n).failed + 1 }) rfl rfl, hp]
        show (runU d ++ d.urgent) = _
        rw [hrd]
  · rw [if_neg (fun hh => hc (hP.1.1 hh)), if_neg hc]
    have htk : (atOf t).ticket = n := by rw [ht, hnn]; rfl
    rw [htk, ← hnn]
    refine Prod.ext ?_ rfl
    have hjj : DeskM.job { d with workers := d.workers.set i att0 } n = d.job n := rfl
    rw [hjj]
    unfold PM.accept
    have hpa : (p.add (atOf t)).wk i = p.wk i := rfl
    have hpat : (p.add (atOf t)).task n = p.task n := rfl
    simp only [hpa, hpw, ← hnn, hpat]
    have hgt : ∀ k, k < d.c.workers → (d.wk k).ticket ≠ 0 → (d.goods ++ [t]).take (d.wk k).beg = d.goods.take (d.wk k).beg := fun k hk h0 => by
      rw [List.take_append_of_le_length (h.work k hk h0).2.2.1]
    refine rest_eq h (e := { d with workers := d.workers.set i att0, jobs := (d.setJob n { d.job n with state := state, told := x.told }).jobs, goods := d.goods ++ [t] }) rfl (by simp) (fun k hk hki h0 => ⟨(hE rfl k hk hki h0).1, hgt k hk h0⟩) hqw (by rw [hp]; simp [PM.add, PM.setTask, progOf]) ?_ (by rw [hp]; rfl) ?_ ?_ (by rw [hp]; rfl) ?_
    · show p.known ++ [⟨atOf t, p.count + 1, missedK (atOf t) p.known⟩] = knownOf (d.goods ++ [t]) (leastD d)
      rw [known_app (leastD_len d) hlb, hpk, hp]
      rfl
    · show (if state = 3 then see p.vals x.puts else p.vals) = mapF (d.goods ++ [t])
      rw [mapF_snoc, ht, hp]
      by_cases e : state = 3
      · simp only [e, if_true]; rfl
      · simp only [e, if_false, see_none]; rfl
    · show p.tasks.set (n - 1) _ = _
      have : ({ p.task n with state := state, steps := [], told := x.told } : TaskM) = taskOf { d.job n with state := state, told := x.told } := by
        rw [hpt]; unfold taskOf
        rw [if_neg (show ¬ ({ d.job n with state := state, told := x.told } : JobM).state ≤ 2 by show ¬ state ≤ 2; omega)]
      rw [this, hp]
      exact po_set d n _
    · show DeskM.left p.urgent n = runU _ ++ d.urgent
      rw [hU (e := { d with workers := d.workers.set i att0, jobs := (d.setJob n { d.job n with state := state, told := x.told }).jobs, goods := d.goods ++ [t] }) (j := { d.job n with state := state, told := x.told }) rfl rfl, hp, List.nil_append]
      show DeskM.left (runU d ++ d.urgent) n = d.urgent
      have hnu : n ∉ d.urgent := fun hm => by have := ((h.urM n).1 hm).2.1; rw [hnn, hs2] at this; omega
      have hl : DeskM.left (runU d ++ d.urgent) n = DeskM.left (runU d) n ++ DeskM.left d.urgent n := by unfold DeskM.left; rw [List.filter_append]
      rw [hl, left_none hnu]
      cases hu : (d.job n).urgent
      · rw [runU_calm h u hi hi0 (by rw [← hnn]; exact hu)]; rfl
      · rw [runU_one h u hi hi0 (by rw [← hnn]; exact hu), ← hnn]
        show DeskM.left [n] n ++ _ = _
        simp [DeskM.left]
end Go.Proofs.YtlbmcdoldnajoaaGreat
