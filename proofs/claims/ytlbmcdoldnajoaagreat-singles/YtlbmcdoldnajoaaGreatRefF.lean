import Derived.Test.YtlbmcdoldnajoaaGreatRefO
set_option maxRecDepth 100000
set_option maxHeartbeats 1000000
namespace Go.Proofs.YtlbmcdoldnajoaaGreat
open Go.RowKit
def noteV (x : Int × Nat × Nat) : Value := .agg #[.int .i64 x.1, natV x.2.1, natV x.2.2]
theorem RD.pushU {F : Nat → Prop} {w w1 : World} {rb : Nat} {d : DeskM} {v : RV} (h : RD F w rb d v) (hF : ∀ k, w.heap.size ≤ k → F k) {g cap m : Nat} (hown : w1.ownsRow 0 3 1 (.slice (some ⟨g, 0, none⟩) (d.urgent.length + 1) cap) (d.urgent.length + 1) (d.urgent.map natV ++ [natV m]))
    (hf : Fr (fun k => v.uv.ownBlock = some k) w w1) (hat : v.uv.ownBlock = some g ∨ w.heap.size ≤ g) :
    RD F (w1.setCell ⟨rb, 6, none⟩ (.slice (some ⟨g, 0, none⟩) (d.urgent.length + 1) cap)) rb { d with urgent := d.urgent ++ [m] } { v with uv := .slice (some ⟨g, 0, none⟩) (d.urgent.length + 1) cap } ∧ Fr F w (w1.setCell ⟨rb, 6, none⟩ (.slice (some ⟨g, 0, none⟩) (d.urgent.length + 1) cap)) := by
  refine h.setU (by rw [List.map_append, List.length_append]; exact hown) (fun k hk => ?_) hf (fun k hl hk => ?_)
  · injection hk with hk
    have hk : g = k := hk
    subst hk
    rcases hat with hat | hat
    · exact h.uF _ hat
    · exact hF _ hat
  · injection hk with hk
    have hk : g = k := hk
    subst hk
    rcases hat with hat | hat
    · exact hat
    · omega
theorem job_at (d : DeskM) (i : Nat) : d.job (i + 1) = d.jobs.getD i jobM0 := rfl
theorem failed_u {d : DeskM} {i p : Nat} (h : d.c.patience < (d.jobs.getD i jobM0).failed + 1) : d.failedJ (i + 1) p = ({ d with jobs := d.jobs.set i { d.jobs.getD i jobM0 with state := 1, failed := (d.jobs.getD i jobM0).failed + 1, urgent := true }, urgent := d.urgent ++ [i + 1] }, 4, i + 1, p) := by
  unfold DeskM.failedJ; rw [job_at, if_pos h]; rfl
theorem failed_q {d : DeskM} {i p : Nat} (h : ¬ d.c.patience < (d.jobs.getD i jobM0).failed + 1) : d.failedJ (i + 1) p = ({ d with jobs := d.jobs.set i { d.jobs.getD i jobM0 with state := 1, failed := (d.jobs.getD i jobM0).failed + 1 }, queue := d.queue ++ [i + 1] }, 4, i + 1, p) := by
  unfold DeskM.failedJ; rw [job_at, if_neg h]; rfl
theorem getD_set_same {l : List JobM} {i : Nat} (hi : i < l.length) (j : JobM) : (l.set i j).getD i jobM0 = j := by simp [List.getD, hi]
theorem RD.jobCell2 {F : Nat → Prop} {w : World} {rb : Nat} {d : DeskM} {v : RV} (h : RD F w rb d v) {i : Nat} (hi : i < d.jobs.length) {c c' : Nat} {x x' : Value} {j1 j2 : JobM} (he : (jobC (d.jobs.getD i jobM0) (v.sv.getD i nilV) (v.tv.getD i nilV)).setIfInBounds c x = jobC j1 (v.sv.getD i nilV) (v.tv.getD i nilV))
    (he2 : (jobC j1 (v.sv.getD i nilV) (v.tv.getD i nilV)).setIfInBounds c' x' = jobC j2 (v.sv.getD i nilV) (v.tv.getD i nilV))
    (hs : j1.steps = (d.jobs.getD i jobM0).steps) (ht : j1.told = (d.jobs.getD i jobM0).told) (hs2 : j2.steps = j1.steps) (ht2 : j2.told = j1.told) :
    RD F ((w.setCell ⟨v.js.getD i 0, c, none⟩ x).setCell ⟨v.js.getD i 0, c', none⟩ x') rb { d with jobs := d.jobs.set i j2 } v ∧ Fr F w ((w.setCell ⟨v.js.getD i 0, c, none⟩ x).setCell ⟨v.js.getD i 0, c', none⟩ x') := by
  obtain ⟨r1, f1⟩ := h.jobCell hi he hs ht
  have hi' : i < (d.jobs.set i j1).length := by rw [List.length_set]; exact hi
  have hg := getD_set_same hi j1
  obtain ⟨r2, f2⟩ := r1.jobCell (i := i) (c := c') (x := x') (j' := j2) hi' (by show (jobC ((d.jobs.set i j1).getD i jobM0) _ _).setIfInBounds c' x' = _; rw [hg]; exact he2) (by show j2.steps = ((d.jobs.set i j1).getD i jobM0).steps; rw [hg]; exact hs2) (by show j2.told = ((d.jobs.set i j1).getD i jobM0).told; rw [hg]; exact ht2)
  have r2' : RD F ((w.setCell ⟨v.js.getD i 0, c, none⟩ x).setCell ⟨v.js.getD i 0, c', none⟩ x') rb { d with jobs := (d.jobs.set i j1).set i j2 } v := r2
  rw [List.set_set] at r2'
  exact ⟨r2', f1.trans f2 (fun _ _ h => h)⟩
theorem rstep_note {F : Nat → Prop} {w W : World} {rb n0 : Nat} {d' : DeskM} {v' : RV} {r : Value} (h : RD (fun k => F k ∧ k ≠ n0) W rb d' v') (hf : Fr F w W) (hn : w.heap.size ≤ n0) (a b c : Value) : RStep F w rb d' r (.returned r) (((W.setCell ⟨n0, 0, none⟩ a).setCell ⟨n0, 1, none⟩ b).setCell ⟨n0, 2, none⟩ c) := by
  have hF3 : Fr (fun k => k = n0) W (((W.setCell ⟨n0, 0, none⟩ a).setCell ⟨n0, 1, none⟩ b).setCell ⟨n0, 2, none⟩ c) := (((Fr.refl (fun k => k = n0) W).setCell (p := ⟨n0, 0, none⟩) (fun _ => rfl) _).setCell (p := ⟨n0, 1, none⟩) (fun _ => rfl) _).setCell (p := ⟨n0, 2, none⟩) (fun _ => rfl) _
  exact ⟨rfl, v', (h.fr hF3 (fun k hk e => hk.2 e)).mono (fun k _ hk => hk.1), hf.trans hF3 (fun k hk e => by have e : k = n0 := e; omega)⟩
theorem refFailed_any (F : Nat → Prop) (w : World) (rb : Nat) (d : DeskM) (v : RV) (i p : Nat) (h : RD F w rb d v) (hi : i < d.jobs.length) (hn : d.jobs.length ≤ 1000000000) (hq : d.queue.length ≤ 1000000000 ∧ d.urgent.length ≤ 1000000000 ∧ (d.jobs.getD i jobM0).failed ≤ 1000000000) (hF : ∀ k, w.heap.size ≤ k → F k) :
    Calls Tryz.prog 109 #[ptrV rb, natV (i + 1), natV p] w fun e w' => RStep F w rb (d.failedJ (i + 1) p).1 (noteV (d.failedJ (i + 1) p).2) e w' := by
  have H : Hid (RD F w rb d v) := h
  have HF : Hid (∀ k, w.heap.size ≤ k → F k) := hF
  obtain ⟨N, hN⟩ : ∃ N, N = d.jobs.length := ⟨_, rfl⟩
  have HN : Hid (N = d.jobs.length) := hN
  obtain ⟨g, cap, hjv, hgl, hcell⟩ := owns_pos h.jobs (by omega)
  rw [← hN] at hjv
  have c4 : w.cell? ⟨rb, 4, none⟩ = some (.slice (some ⟨g, 0, none⟩) N cap) := by rw [blk_cell h.blk, ← hjv]; rfl
  have c3 : w.cell? ⟨rb, 3, none⟩ = some (.int .i64 (d.c.patience : Int)) := by rw [blk_cell h.blk]; rfl
  obtain ⟨qa, qc, hqv⟩ := owns_form h.queue
  obtain ⟨ua, uc, huv⟩ := owns_form h.urg
  have c5 : w.cell? ⟨rb, 5, none⟩ = some (.slice qa d.queue.length qc) := by rw [blk_cell h.blk, ← hqv]; rfl
  have c6 : w.cell? ⟨rb, 6, none⟩ = some (.slice ua d.urgent.length uc) := by rw [blk_cell h.blk, ← huv]; rfl
  have rf : ∀ q, w.frozen? ⟨rb, q, none⟩ = false := fun q => blk_free h.blk
  have hrb := blk_lt h.blk
  have cj := (hcell i (by omega)).trans (h.jsGet hi)
  obtain ⟨_, k2⟩ := h.jb i hi
  have e1 : w.cell? ⟨v.js.getD i 0, 1, none⟩ = some (.int .i64 (d.jobs.getD i jobM0).state) := by rw [blk_cell k2]; rfl
  have e4 : w.cell? ⟨v.js.getD i 0, 4, none⟩ = some (.int .i64 ((d.jobs.getD i jobM0).failed : Nat)) := by rw [blk_cell k2]; rfl
  have e5 : w.cell? ⟨v.js.getD i 0, 5, none⟩ = some (.bool (d.jobs.getD i jobM0).urgent) := by rw [blk_cell k2]; rfl
  have jf : ∀ q, w.frozen? ⟨v.js.getD i 0, q, none⟩ = false := fun q => blk_free k2
  have hjb := blk_lt k2
  have hne : v.js.getD i 0 ≠ rb := fun e => blk_ne k2 h.blk (by decide) e
  have hne' : ¬ rb = v.js.getD i 0 := fun e => hne e.symm
  obtain ⟨n, hnn⟩ : ∃ n, n = i + 1 := ⟨_, rfl⟩
  have HNN : Hid (i + 1 = n) := hnn.symm
  have hw : IntKind.i64.wrap ((n : Int) - 1) = (i : Int) := by rw [IntKind.wrap_i64]; omega
  have m2 : (i : Int) < (N : Int) := by omega
  have HI : Hid (i < d.jobs.length) := hi
  have hq1 := hq.1
  have hq2 := hq.2.1
  have hfl := hq.2.2
  have hwf : IntKind.i64.wrap (((d.jobs.getD i jobM0).failed : Int) + 1) = ((d.jobs.getD i jobM0).failed : Int) + 1 := by rw [IntKind.wrap_i64]; omega
  have H1 : Hid (RD F ((w.setCell ⟨v.js.getD i 0, 1, none⟩ (.int .i64 1)).setCell ⟨v.js.getD i 0, 4, none⟩ (.int .i64 (((d.jobs.getD i jobM0).failed : Int) + 1))) rb { d with jobs := d.jobs.set i { d.jobs.getD i jobM0 with state := 1, failed := (d.jobs.getD i jobM0).failed + 1 } } v ∧ Fr F w ((w.setCell ⟨v.js.getD i 0, 1, none⟩ (.int .i64 1)).setCell ⟨v.js.getD i 0, 4, none⟩ (.int .i64 (((d.jobs.getD i jobM0).failed : Int) + 1)))) :=
    h.jobCell2 (j1 := { d.jobs.getD i jobM0 with state := 1 }) hi rfl rfl rfl rfl rfl rfl
  have HFq : Hid (¬ d.c.patience < (d.jobs.getD i jobM0).failed + 1 → d.failedJ (i + 1) p = ({ d with jobs := d.jobs.set i { d.jobs.getD i jobM0 with state := 1, failed := (d.jobs.getD i jobM0).failed + 1 }, queue := d.queue ++ [i + 1] }, 4, i + 1, p)) := failed_q
  have HFu : Hid (d.c.patience < (d.jobs.getD i jobM0).failed + 1 → d.failedJ (i + 1) p = ({ d with jobs := d.jobs.set i { d.jobs.getD i jobM0 with state := 1, failed := (d.jobs.getD i jobM0).failed + 1, urgent := true }, urgent := d.urgent ++ [i + 1] }, 4, i + 1, p)) := failed_u
  obtain ⟨jb, hjbe⟩ : ∃ jb, jb = v.js.getD i 0 := ⟨_, rfl⟩
  rw [← hjbe] at cj e1 e4 e5 jf hjb hne hne' H1
  unfold ptrV at cj
  have HJB : Hid (v.js.getD i 0 = jb) := hjbe.symm
  have HQV : Hid (v.qv = .slice qa d.queue.length qc) := hqv
  have HUV : Hid (v.uv = .slice ua d.urgent.length uc) := huv
  obtain ⟨fl, hfle⟩ : ∃ fl, fl = (d.jobs.getD i jobM0).failed := ⟨_, rfl⟩
  have HFl : Hid ((d.jobs.getD i jobM0).failed = fl) := hfle.symm
  rw [← hfle] at e4 hwf hfl
  generalize (d.jobs.getD i jobM0).state = st at e1
  generalize (d.jobs.getD i jobM0).urgent = ug at e5
  obtain ⟨i2, hi2, hx0, hx1, hx2⟩ := info_parts Tryz.infoInt
  rw [HNN.out] at HFq HFu ⊢
  unfold ptrV natV
  clear h hF hq hN hi k2 hcell hjbe hqv huv hfle hn hnn
  go_enter Tryz.func109, Tryz.ntmps109
  go_wp2
  refine name_wp (p := fun X => RD (fun k => F k ∧ k ≠ w.heap.size) X rb { d with jobs := d.jobs.set i { d.jobs.getD i jobM0 with state := 1, failed := (d.jobs.getD i jobM0).failed + 1 } } v ∧ Fr F w X ∧ X.heap[w.heap.size]? = some (.cells #[.int .i64 0, .int .i64 0, .int .i64 0] 122 (0, 0))) ⟨?_, ?_, ?_⟩ ?_
  · have := H1.out.1
    rw [HFl.out] at this
    rw [HFl.out]
    exact (this.mono (fun k hk hFk => ⟨hFk, by rw [World.size_setCell, World.size_setCell] at hk; omega⟩)).below ((Below.refl _ _).alloc (Nat.le_refl _) _)
  · have := H1.out.2
    rw [HFl.out] at this
    exact this.alloc _
  · have := heap_alloc_new ((w.setCell ⟨jb, 1, none⟩ (.int .i64 1)).setCell ⟨jb, 4, none⟩ (.int .i64 ((fl : Int) + 1))) (.cells #[.int .i64 0, .int .i64 0, .int .i64 0] 122)
    rw [World.size_setCell, World.size_setCell] at this
    exact this
  rintro X ⟨r1, f1, x1⟩
  have HX : Hid (RD (fun k => F k ∧ k ≠ w.heap.size) X rb { d with jobs := d.jobs.set i { d.jobs.getD i jobM0 with state := 1, failed := (d.jobs.getD i jobM0).failed + 1 } } v ∧ Fr F w X ∧ X.heap[w.heap.size]? = some (.cells #[.int .i64 0, .int .i64 0, .int .i64 0] 122 (0, 0))) := ⟨r1, f1, x1⟩
  have y3 : X.cell? ⟨rb, 3, none⟩ = some (.int .i64 (d.c.patience : Int)) := by rw [blk_cell r1.blk]; rfl
  have y5 : X.cell? ⟨rb, 5, none⟩ = some (.slice qa d.queue.length qc) := by rw [blk_cell r1.blk, ← HQV.out]; rfl
  have y6 : X.cell? ⟨rb, 6, none⟩ = some (.slice ua d.urgent.length uc) := by rw [blk_cell r1.blk, ← HUV.out]; rfl
  have yf : ∀ q, X.frozen? ⟨rb, q, none⟩ = false := fun q => blk_free r1.blk
  have hjx := (r1.jb i (by show i < (d.jobs.set i _).length; rw [List.length_set]; exact HI.out)).2
  rw [HJB.out] at hjx
  have hjx2 : X.heap[jb]? = some (.cells (jobC { d.jobs.getD i jobM0 with state := 1, failed := (d.jobs.getD i jobM0).failed + 1 } (v.sv.getD i nilV) (v.tv.getD i nilV)) 133 (0, 0)) := by
    rw [hjx]
    show some (Obj.cells (jobC ((d.jobs.set i _).getD i jobM0) _ _) _ _) = _
    rw [getD_set_same HI.out]
  have z4 : X.cell? ⟨jb, 4, none⟩ = some (.int .i64 ((fl : Int) + 1)) := by rw [blk_cell hjx2, ← HFl.out]; rfl
  have z5 : X.cell? ⟨jb, 5, none⟩ = some (.bool (d.jobs.getD i jobM0).urgent) := by rw [blk_cell hjx2]; rfl
  have zf : ∀ q, X.frozen? ⟨jb, q, none⟩ = false := fun q => blk_free hjx2
  have n0 : X.cell? ⟨w.heap.size, 0, none⟩ = some (.int .i64 0) := by rw [blk_cell x1]; rfl
  have n1 : X.cell? ⟨w.heap.size, 1, none⟩ = some (.int .i64 0) := by rw [blk_cell x1]; rfl
  have n2 : X.cell? ⟨w.heap.size, 2, none⟩ = some (.int .i64 0) := by rw [blk_cell x1]; rfl
  have nf : ∀ q, X.frozen? ⟨w.heap.size, q, none⟩ = false := fun q => blk_free x1
  have hxs := blk_lt x1
  have hxr := blk_lt r1.blk
  have hxj := blk_lt hjx2
  have nb1 : ¬ jb = w.heap.size := by omega
  have nb2 : ¬ rb = w.heap.size := by omega
  clear r1 f1 x1 hjx hjx2 c3 c4 c5 c6 rf e1 e4 e5 jf cj H1
  by_cases hpat : d.c.patience < fl + 1
  · have m3 : (d.c.patience : Int) < (fl : Int) + 1 := by omega
    have HPP : Hid (d.failedJ n p = ({ d with jobs := d.jobs.set i { d.jobs.getD i jobM0 with state := 1, failed := (d.jobs.getD i jobM0).failed + 1, urgent := true }, urgent := d.urgent ++ [n] }, 4, n, p)) := HFu.out (by rw [HFl.out]; exact hpat)
    have HU : Hid (RD (fun k => F k ∧ k ≠ w.heap.size) (X.setCell ⟨jb, 5, none⟩ (.bool true)) rb { d with jobs := d.jobs.set i { d.jobs.getD i jobM0 with state := 1, failed := (d.jobs.getD i jobM0).failed + 1, urgent := true } } v ∧ Fr F w (X.setCell ⟨jb, 5, none⟩ (.bool true))) := by
      have hg := getD_set_same HI.out { d.jobs.getD i jobM0 with state := 1, failed := (d.jobs.getD i jobM0).failed + 1 }
      have := HX.out.1.jobCell (i := i) (c := 5) (x := .bool true) (j' := { d.jobs.getD i jobM0 with state := 1, failed := (d.jobs.getD i jobM0).failed + 1, urgent := true }) (by show i < (d.jobs.set i _).length; rw [List.length_set]; exact HI.out) (by show (jobC ((d.jobs.set i _).getD i jobM0) _ _).setIfInBounds 5 _ = _; rw [hg]; rfl) (by show _ = ((d.jobs.set i _).getD i jobM0).steps; rw [hg]) (by show _ = ((d.jobs.set i _).getD i jobM0).told; rw [hg])
      rw [HJB.out] at this
      have r := this.1
      refine ⟨?_, HX.out.2.1.trans this.2 (fun _ _ h => h.1)⟩
      have r' : RD (fun k => F k ∧ k ≠ w.heap.size) (X.setCell ⟨jb, 5, none⟩ (.bool true)) rb { d with jobs := (d.jobs.set i { d.jobs.getD i jobM0 with state := 1, failed := (d.jobs.getD i jobM0).failed + 1 }).set i { d.jobs.getD i jobM0 with state := 1, failed := (d.jobs.getD i jobM0).failed + 1, urgent := true } } v := r
      rw [List.set_set] at r'
      exact r'
    have HRQ : Hid (((X.setCell ⟨jb, 5, none⟩ (.bool true)).drew.alloc (.cells #[.int .i64 (n : Int)] 3)).ownsRow 0 3 1 (.slice ua d.urgent.length uc) d.urgent.length (d.urgent.map natV)) := by
      have := HU.out.1.urg
      rw [HUV.out] at this
      exact (owns_keep this (Below.refl _ _).drew).alloc _
    generalize (d.jobs.getD i jobM0).urgent = ug at z5
    clear hpat
    go_region
    go_wp2_with (at_builtin; refine wpList_append_lies _ (by rfl) _ _ 55 (by rfl) 0 3 i2 _ 1 8 Tryz.underlying55 hi2 hx0 hx1 hx2 (by rfl) (by decide) (.slice ua d.urgent.length uc) d.urgent.length (d.urgent.map natV) (by rfl) HRQ.out ⟨X.heap.size, 0, none⟩ 1 1 [.int .i64 (n : Int)] (by rfl) (by rfl) ?_ ?_ (by decide) ?_ ?_ ?_ _ (by rfl) ?_)
    · rfl
    · unfold maxLen; omega
    · omega
    · intro g2 cap2 w6 hown6 hgrow6 hat6 hlt6
      have hF6 : Fr (fun k => v.uv.ownBlock = some k) (X.setCell ⟨jb, 5, none⟩ (.bool true)) w6 := (((Fr.refl _ _).drew).alloc _).grown hgrow6 (fun k hk _ => by rw [HUV.out]; exact hk)
      have hqrb : ¬ v.uv.ownBlock = some rb := owns_ne HX.out.1.urg HX.out.1.blk (by decide)
      have hqn : ¬ v.uv.ownBlock = some w.heap.size := owns_ne HX.out.1.urg HX.out.2.2 (by decide)
      have HR : Hid (RD (fun k => F k ∧ k ≠ w.heap.size) (w6.setCell ⟨rb, 6, none⟩ (.slice (some ⟨g2, 0, none⟩) (d.urgent.length + 1) cap2)) rb { d with jobs := d.jobs.set i { d.jobs.getD i jobM0 with state := 1, failed := (d.jobs.getD i jobM0).failed + 1, urgent := true }, urgent := d.urgent ++ [n] } { v with uv := .slice (some ⟨g2, 0, none⟩) (d.urgent.length + 1) cap2 } ∧ Fr F w (w6.setCell ⟨rb, 6, none⟩ (.slice (some ⟨g2, 0, none⟩) (d.urgent.length + 1) cap2))) := by
        have := RD.pushU (m := n) (g := g2) (cap := cap2) HU.out.1 (fun k hk => by rw [World.size_setCell] at hk; exact ⟨HF.out k (by have := HX.out.2.1.size; omega), by omega⟩) hown6 hF6 (by rw [World.size_setCell]; show v.uv.ownBlock = _ ∨ _; rw [HUV.out]; rcases hat6 with h | h; exact Or.inl h; exact Or.inr (by omega))
        exact ⟨this.1, HU.out.2.trans this.2 (fun _ _ h => h.1)⟩
      have hxr' : rb < (X.setCell ⟨jb, 5, none⟩ (.bool true)).heap.size := by rw [World.size_setCell]; exact hxr
      have hxs' : w.heap.size < (X.setCell ⟨jb, 5, none⟩ (.bool true)).heap.size := by rw [World.size_setCell]; exact hxs
      have so : ∀ b q, b ≠ jb → (X.setCell ⟨jb, 5, none⟩ (.bool true)).cell? ⟨b, q, none⟩ = X.cell? ⟨b, q, none⟩ := fun b q hb => World.cell?_setCell_other _ _ _ _ (by intro e; injection e with e; exact hb e.symm)
      have sf : ∀ b q, b ≠ jb → (X.setCell ⟨jb, 5, none⟩ (.bool true)).frozen? ⟨b, q, none⟩ = X.frozen? ⟨b, q, none⟩ := fun b q hb => World.frozen?_of_block (w := X) (blk_other hb _ _)
      have f5 : w6.cell? ⟨rb, 6, none⟩ = some (.slice ua d.urgent.length uc) := (hF6.cell hxr' hqrb).trans ((so rb 6 hne').trans y6)
      have ff5 : w6.frozen? ⟨rb, 6, none⟩ = false := (hF6.frozen hxr' hqrb).trans ((sf rb 6 hne').trans (yf 6))
      have nwj : w.heap.size ≠ jb := fun e => nb1 e.symm
      have q0 : w6.cell? ⟨w.heap.size, 0, none⟩ = some (.int .i64 0) := (hF6.cell hxs' hqn).trans ((so _ 0 nwj).trans n0)
      have q1 : w6.cell? ⟨w.heap.size, 1, none⟩ = some (.int .i64 0) := (hF6.cell hxs' hqn).trans ((so _ 1 nwj).trans n1)
      have q2 : w6.cell? ⟨w.heap.size, 2, none⟩ = some (.int .i64 0) := (hF6.cell hxs' hqn).trans ((so _ 2 nwj).trans n2)
      have qf : ∀ q, w6.frozen? ⟨w.heap.size, q, none⟩ = false := fun q => (hF6.frozen hxs' hqn).trans ((sf _ q nwj).trans (nf q))
      clear hown6 hgrow6 hat6 hlt6 hF6 so sf
      go_wp2
      refine bodyPost_ret (v := .agg #[.int .i64 4, .int .i64 (n : Int), .int .i64 (p : Int)]) (by simp [results, Tryz.results109, go_sem, q0, q1, q2]) rfl ?_
      rw [HPP.out]
      exact rstep_note (n0 := w.heap.size) HR.out.1 HR.out.2 (Nat.le_refl _) _ _ _
  · have m3 : ¬ ((d.c.patience : Int) < (fl : Int) + 1) := by omega
    have HP := HFq.out (by rw [HFl.out]; exact hpat)
    have HPP : Hid (d.failedJ n p = ({ d with jobs := d.jobs.set i { d.jobs.getD i jobM0 with state := 1, failed := (d.jobs.getD i jobM0).failed + 1 }, queue := d.queue ++ [n] }, 4, n, p)) := HP
    have HRQ : Hid ((X.drew.alloc (.cells #[.int .i64 (n : Int)] 3)).ownsRow 0 3 1 (.slice qa d.queue.length qc) d.queue.length (d.queue.map natV)) := by
      have := HX.out.1.queue
      rw [HQV.out] at this
      exact (owns_keep this (Below.refl _ _).drew).alloc _
    clear HP hpat
    go_region
    go_wp2_with (at_builtin; refine wpList_append_lies _ (by rfl) _ _ 55 (by rfl) 0 3 i2 _ 1 8 Tryz.underlying55 hi2 hx0 hx1 hx2 (by rfl) (by decide) (.slice qa d.queue.length qc) d.queue.length (d.queue.map natV) (by rfl) HRQ.out ⟨X.heap.size, 0, none⟩ 1 1 [.int .i64 (n : Int)] (by rfl) (by rfl) ?_ ?_ (by decide) ?_ ?_ ?_ _ (by rfl) ?_)
    · rfl
    · unfold maxLen; omega
    · omega
    · intro g2 cap2 w6 hown6 hgrow6 hat6 hlt6
      have hF6 : Fr (fun k => v.qv.ownBlock = some k) X w6 := (((Fr.refl _ X).drew).alloc _).grown hgrow6 (fun k hk _ => by rw [HQV.out]; exact hk)
      have hqrb : ¬ v.qv.ownBlock = some rb := owns_ne HX.out.1.queue HX.out.1.blk (by decide)
      have hqn : ¬ v.qv.ownBlock = some w.heap.size := owns_ne HX.out.1.queue HX.out.2.2 (by decide)
      have HR : Hid (RD (fun k => F k ∧ k ≠ w.heap.size) (w6.setCell ⟨rb, 5, none⟩ (.slice (some ⟨g2, 0, none⟩) (d.queue.length + 1) cap2)) rb { d with jobs := d.jobs.set i { d.jobs.getD i jobM0 with state := 1, failed := (d.jobs.getD i jobM0).failed + 1 }, queue := d.queue ++ [n] } { v with qv := .slice (some ⟨g2, 0, none⟩) (d.queue.length + 1) cap2 } ∧ Fr F w (w6.setCell ⟨rb, 5, none⟩ (.slice (some ⟨g2, 0, none⟩) (d.queue.length + 1) cap2))) := by
        have := RD.pushQ (m := n) (g := g2) (cap := cap2) HX.out.1 (fun k hk => ⟨HF.out k (by have := HX.out.2.1.size; omega), by omega⟩) hown6 hF6 (by rw [HQV.out]; rcases hat6 with h | h; exact Or.inl h; exact Or.inr (by omega))
        exact ⟨this.1, HX.out.2.1.trans this.2 (fun _ _ h => h.1)⟩
      have f5 : w6.cell? ⟨rb, 5, none⟩ = some (.slice qa d.queue.length qc) := (hF6.cell hxr hqrb).trans y5
      have ff5 : w6.frozen? ⟨rb, 5, none⟩ = false := (hF6.frozen hxr hqrb).trans (yf 5)
      have q0 : w6.cell? ⟨w.heap.size, 0, none⟩ = some (.int .i64 0) := (hF6.cell hxs hqn).trans n0
      have q1 : w6.cell? ⟨w.heap.size, 1, none⟩ = some (.int .i64 0) := (hF6.cell hxs hqn).trans n1
      have q2 : w6.cell? ⟨w.heap.size, 2, none⟩ = some (.int .i64 0) := (hF6.cell hxs hqn).trans n2
      have qf : ∀ q, w6.frozen? ⟨w.heap.size, q, none⟩ = false := fun q => (hF6.frozen hxs hqn).trans (nf q)
      clear hown6 hgrow6 hat6 hlt6 hF6
      go_wp2
      refine bodyPost_ret (v := .agg #[.int .i64 4, .int .i64 (n : Int), .int .i64 (p : Int)]) (by simp [results, Tryz.results109, go_sem, q0, q1, q2]) rfl ?_
      rw [HPP.out]
      exact rstep_note (n0 := w.heap.size) HR.out.1 HR.out.2 (Nat.le_refl _) _ _ _
end Go.Proofs.YtlbmcdoldnajoaaGreat
