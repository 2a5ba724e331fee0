import Derived.Test.YtlbmcdoldnajoaaGreatRefS
set_option maxRecDepth 100000
set_option maxHeartbeats 1000000
namespace Go.Proofs.YtlbmcdoldnajoaaGreat
open Go.RowKit
theorem RD.setQ {F : Nat → Prop} {w w1 : World} {rb : Nat} {d : DeskM} {v : RV} (h : RD F w rb d v) {qv : Value} {q : List Nat} (hown : w1.ownsRow 0 3 1 qv q.length (q.map natV)) (hF : ∀ k, qv.ownBlock = some k → F k)
    (hf : Fr (fun k => v.qv.ownBlock = some k) w w1) (hnew : ∀ k, k < w.heap.size → qv.ownBlock = some k → v.qv.ownBlock = some k) :
    RD F (w1.setCell ⟨rb, 5, none⟩ qv) rb { d with queue := q } { v with qv := qv } ∧ Fr F w (w1.setCell ⟨rb, 5, none⟩ qv) := by
  have hrb : ¬ v.qv.ownBlock = some rb := owns_ne h.queue h.blk (by decide)
  have hb1 := hf.blk h.blk hrb
  have hty : ∀ {e : TypeId} {s : Nat} {u : Value} {n : Nat} {xs : List Value}, w.ownsRow 0 e s u n xs → e ≠ 3 → ∀ k, u.ownBlock = some k → ¬ v.qv.ownBlock = some k := fun hu he k hk hq => own_types hu h.queue he hk hq
  have hbt : ∀ {b : Nat} {c : Array Value} {t : TypeId}, w.heap[b]? = some (.cells c t (0, 0)) → t ≠ 3 → ¬ v.qv.ownBlock = some b := fun hb ht hq => owns_ne h.queue hb (fun e => ht e.symm) hq
  refine ⟨?_, (hf.mono (T := F) (fun k _ hk => h.qF k hk)).setCell (p := ⟨rb, 5, none⟩) (fun _ => h.inF) _⟩
  exact { inF := h.inF
          blk := by rw [blk_set hb1]; rfl
          jobs := h.keepRow hf hrb h.jobs (hty h.jobs (by decide)) (by decide) _ _
          jF := h.jF
          queue := owns_set hown (owns_ne hown hb1 (by decide)) _ _
          qF := hF
          urg := h.keepRow hf hrb h.urg (fun k hk hq => h.qu k hq hk) (by decide) _ _
          uF := h.uF
          qu := fun k hk hu => h.qu k (hnew k (owns_lt h.urg hu).2 hk) hu
          work := h.keepRow hf hrb h.work (hty h.work (by decide)) (by decide) _ _
          wF := h.wF
          goods := h.keepRow hf hrb h.goods (hty h.goods (by decide)) (by decide) _ _
          gF := h.gF
          jb := fun i hi => ⟨(h.jb i hi).1, h.keepBlk hf (h.jb i hi).2 (hbt (h.jb i hi).2 (by decide)) (by decide) _ _⟩
          nd := h.nd
          st := fun i hi => ⟨h.keepRow hf hrb (h.st i hi).1 (hty (h.st i hi).1 (by decide)) (by decide) _ _, (h.st i hi).2⟩
          told := fun i hi => ⟨h.keepRow hf hrb (h.told i hi).1 (fun k hk => ((h.told i hi).2 k hk).2.1) (by decide) _ _, fun k hk => ⟨((h.told i hi).2 k hk).1, fun hq => ((h.told i hi).2 k hk).2.1 (hnew k (owns_lt (h.told i hi).1 hk).2 hq), ((h.told i hi).2 k hk).2.2⟩⟩
          sl := h.sl
          tl := h.tl
          gl := h.gl
          gb := fun i hi => by
            obtain ⟨h1, h2, h3, h4, h5, h6⟩ := h.gb i hi
            exact ⟨h.keepRow hf hrb h1 (hty h1 (by decide)) (by decide) _ _, h.keepRow hf hrb h2 (hty h2 (by decide)) (by decide) _ _, h.keepRow hf hrb h3 (hty h3 (by decide)) (by decide) _ _, h4, h5, h6⟩ }
theorem RD.setU {F : Nat → Prop} {w w1 : World} {rb : Nat} {d : DeskM} {v : RV} (h : RD F w rb d v) {uv : Value} {q : List Nat} (hown : w1.ownsRow 0 3 1 uv q.length (q.map natV)) (hF : ∀ k, uv.ownBlock = some k → F k)
    (hf : Fr (fun k => v.uv.ownBlock = some k) w w1) (hnew : ∀ k, k < w.heap.size → uv.ownBlock = some k → v.uv.ownBlock = some k) :
    RD F (w1.setCell ⟨rb, 6, none⟩ uv) rb { d with urgent := q } { v with uv := uv } ∧ Fr F w (w1.setCell ⟨rb, 6, none⟩ uv) := by
  have hrb : ¬ v.uv.ownBlock = some rb := owns_ne h.urg h.blk (by decide)
  have hb1 := hf.blk h.blk hrb
  have hty : ∀ {e : TypeId} {s : Nat} {u : Value} {n : Nat} {xs : List Value}, w.ownsRow 0 e s u n xs → e ≠ 3 → ∀ k, u.ownBlock = some k → ¬ v.uv.ownBlock = some k := fun hu he k hk hq => own_types hu h.urg he hk hq
  have hbt : ∀ {b : Nat} {c : Array Value} {t : TypeId}, w.heap[b]? = some (.cells c t (0, 0)) → t ≠ 3 → ¬ v.uv.ownBlock = some b := fun hb ht hq => owns_ne h.urg hb (fun e => ht e.symm) hq
  refine ⟨?_, (hf.mono (T := F) (fun k _ hk => h.uF k hk)).setCell (p := ⟨rb, 6, none⟩) (fun _ => h.inF) _⟩
  exact { inF := h.inF
          blk := by rw [blk_set hb1]; rfl
          jobs := h.keepRow hf hrb h.jobs (hty h.jobs (by decide)) (by decide) _ _
          jF := h.jF
          queue := h.keepRow hf hrb h.queue (fun k hk hq => h.qu k hk hq) (by decide) _ _
          qF := h.qF
          urg := owns_set hown (owns_ne hown hb1 (by decide)) _ _
          uF := hF
          qu := fun k hk hu => h.qu k hk (hnew k (owns_lt h.queue hk).2 hu)
          work := h.keepRow hf hrb h.work (hty h.work (by decide)) (by decide) _ _
          wF := h.wF
          goods := h.keepRow hf hrb h.goods (hty h.goods (by decide)) (by decide) _ _
          gF := h.gF
          jb := fun i hi => ⟨(h.jb i hi).1, h.keepBlk hf (h.jb i hi).2 (hbt (h.jb i hi).2 (by decide)) (by decide) _ _⟩
          nd := h.nd
          st := fun i hi => ⟨h.keepRow hf hrb (h.st i hi).1 (hty (h.st i hi).1 (by decide)) (by decide) _ _, (h.st i hi).2⟩
          told := fun i hi => ⟨h.keepRow hf hrb (h.told i hi).1 (fun k hk => ((h.told i hi).2 k hk).2.2) (by decide) _ _, fun k hk => ⟨((h.told i hi).2 k hk).1, ((h.told i hi).2 k hk).2.1, fun hq => ((h.told i hi).2 k hk).2.2 (hnew k (owns_lt (h.told i hi).1 hk).2 hq)⟩⟩
          sl := h.sl
          tl := h.tl
          gl := h.gl
          gb := fun i hi => by
            obtain ⟨h1, h2, h3, h4, h5, h6⟩ := h.gb i hi
            exact ⟨h.keepRow hf hrb h1 (hty h1 (by decide)) (by decide) _ _, h.keepRow hf hrb h2 (hty h2 (by decide)) (by decide) _ _, h.keepRow hf hrb h3 (hty h3 (by decide)) (by decide) _ _, h4, h5, h6⟩ }
theorem RD.jobCell {F : Nat → Prop} {w : World} {rb : Nat} {d : DeskM} {v : RV} (h : RD F w rb d v) {i : Nat} (hi : i < d.jobs.length) {c : Nat} {x : Value} {j' : JobM} (he : (jobC (d.jobs.getD i jobM0) (v.sv.getD i nilV) (v.tv.getD i nilV)).setIfInBounds c x = jobC j' (v.sv.getD i nilV) (v.tv.getD i nilV))
    (hs : j'.steps = (d.jobs.getD i jobM0).steps) (ht : j'.told = (d.jobs.getD i jobM0).told) :
    RD F (w.setCell ⟨v.js.getD i 0, c, none⟩ x) rb { d with jobs := d.jobs.set i j' } v ∧ Fr F w (w.setCell ⟨v.js.getD i 0, c, none⟩ x) := by
  obtain ⟨hjF, hjb⟩ := h.jb i hi
  have hrow : ∀ {e : TypeId} {s : Nat} {u : Value} {n : Nat} {xs : List Value}, w.ownsRow 0 e s u n xs → e ≠ 133 → (w.setCell ⟨v.js.getD i 0, c, none⟩ x).ownsRow 0 e s u n xs := fun hu he => owns_set hu (owns_ne hu hjb he) _ _
  have hlen : (d.jobs.set i j').length = d.jobs.length := List.length_set ..
  have g1 : (d.jobs.set i j').getD i jobM0 = j' := by simp [List.getD, hi]
  have g2 : ∀ k, k ≠ i → (d.jobs.set i j').getD k jobM0 = d.jobs.getD k jobM0 := fun k hk => by simp [List.getD, List.getElem?_set_ne (Ne.symm hk)]
  refine ⟨?_, (Fr.refl F w).setCell (p := ⟨v.js.getD i 0, c, none⟩) (fun _ => hjF) _⟩
  exact { inF := h.inF
          blk := (blk_other (blk_ne h.blk hjb (by decide)) _ _).trans h.blk
          jobs := by rw [hlen]; exact hrow h.jobs (by decide)
          jF := h.jF
          queue := hrow h.queue (by decide)
          qF := h.qF
          urg := hrow h.urg (by decide)
          uF := h.uF
          qu := h.qu
          work := hrow h.work (by decide)
          wF := h.wF
          goods := hrow h.goods (by decide)
          gF := h.gF
          jb := fun k hk => by
            rw [hlen] at hk
            refine ⟨(h.jb k hk).1, ?_⟩
            by_cases e : k = i
            · subst e
              show _ = some (Obj.cells (jobC ((d.jobs.set k j').getD k jobM0) _ _) _ _)
              rw [g1, blk_set hjb, he]
            · show _ = some (Obj.cells (jobC ((d.jobs.set i j').getD k jobM0) _ _) _ _)
              rw [g2 k e]
              exact (blk_other (fun hb => e (h.nd k i hk hi hb)) _ _).trans (h.jb k hk).2
          nd := fun a b ha hb => by rw [hlen] at ha hb; exact h.nd a b ha hb
          st := fun k hk => by
            rw [hlen] at hk
            have hq : ((d.jobs.set i j').getD k jobM0).steps = (d.jobs.getD k jobM0).steps := by
              by_cases e : k = i
              · subst e; rw [g1, hs]
              · rw [g2 k e]
            simp only [hq]
            exact ⟨hrow (h.st k hk).1 (by decide), (h.st k hk).2⟩
          told := fun k hk => by
            rw [hlen] at hk
            have hq : ((d.jobs.set i j').getD k jobM0).told = (d.jobs.getD k jobM0).told := by
              by_cases e : k = i
              · subst e; rw [g1, ht]
              · rw [g2 k e]
            simp only [hq]
            exact ⟨hrow (h.told k hk).1 (by decide), (h.told k hk).2⟩
          sl := by rw [h.sl, hlen]
          tl := by rw [h.tl, hlen]
          gl := h.gl
          gb := fun k hk => by
            obtain ⟨h1, h2, h3, h4, h5, h6⟩ := h.gb k hk
            exact ⟨hrow h1 (by decide), hrow h2 (by decide), hrow h3 (by decide), h4, h5, h6⟩ }
theorem RD.setW {F : Nat → Prop} {w w1 : World} {rb : Nat} {d : DeskM} {v : RV} (h : RD F w rb d v) {ws : List AttM} (hl : ws.length = d.workers.length) (hown : w1.ownsRow 0 136 3 v.wv d.workers.length (attCells ws)) (hf : Fr (fun k => v.wv.ownBlock = some k) w w1) :
    RD F w1 rb { d with workers := ws } v ∧ Fr F w w1 := by
  have hrb : ¬ v.wv.ownBlock = some rb := owns_ne h.work h.blk (by decide)
  have hty : ∀ {e : TypeId} {s : Nat} {u : Value} {n : Nat} {xs : List Value}, w.ownsRow 0 e s u n xs → e ≠ 136 → w1.ownsRow 0 e s u n xs := fun hu he => owns_fr hu hf (fun k hk hq => own_types hu h.work he hk hq)
  refine ⟨?_, hf.mono (fun k _ hk => h.wF k hk)⟩
  exact { inF := h.inF
          blk := hf.blk h.blk hrb
          jobs := hty h.jobs (by decide)
          jF := h.jF
          queue := hty h.queue (by decide)
          qF := h.qF
          urg := hty h.urg (by decide)
          uF := h.uF
          qu := h.qu
          work := by show w1.ownsRow 0 _ 3 v.wv ws.length _; rw [hl]; exact hown
          wF := h.wF
          goods := hty h.goods (by decide)
          gF := h.gF
          jb := fun i hi => ⟨(h.jb i hi).1, hf.blk (h.jb i hi).2 (fun hq => owns_ne h.work (h.jb i hi).2 (by decide) hq)⟩
          nd := h.nd
          st := fun i hi => ⟨hty (h.st i hi).1 (by decide), (h.st i hi).2⟩
          told := fun i hi => ⟨hty (h.told i hi).1 (by decide), (h.told i hi).2⟩
          sl := h.sl
          tl := h.tl
          gl := h.gl
          gb := fun i hi => by
            obtain ⟨h1, h2, h3, h4, h5, h6⟩ := h.gb i hi
            exact ⟨hty h1 (by decide), hty h2 (by decide), hty h3 (by decide), h4, h5, h6⟩ }
theorem attCells_at (l : List AttM) {i : Nat} (hi : i < l.length) {k : Nat} (hk : k < 3) : (attCells l)[i * 3 + k]? = (attC (l.getD i att0))[k]? := by
  rw [attCells, flat_get 3 _ (fun x hx => by obtain ⟨a, _, rfl⟩ := List.mem_map.1 hx; rfl) i k hk]
  simp [List.getD, hi]
theorem attCells_len (l : List AttM) : (attCells l).length = l.length * 3 := by
  rw [attCells, flat_len 3 _ (fun x hx => by obtain ⟨a, _, rfl⟩ := List.mem_map.1 hx; rfl), List.length_map]
theorem attCells_set (l : List AttM) {i : Nat} (hi : i < l.length) (a : AttM) : (((attCells l).set (i * 3) (natV a.ticket)).set (i * 3 + 1) (natV a.beg)).set (i * 3 + 2) (natV a.done) = attCells (l.set i a) := by
  apply List.ext_getElem?
  intro q
  by_cases hq : q < l.length * 3
  · have e : q = q / 3 * 3 + q % 3 := by omega
    have hm : q % 3 < 3 := Nat.mod_lt _ (by decide)
    have hd : q / 3 < l.length := by omega
    rw [show (attCells (l.set i a))[q]? = (attCells (l.set i a))[q / 3 * 3 + q % 3]? by rw [← e], attCells_at _ (by rw [List.length_set]; exact hd) hm]
    by_cases hqi : q / 3 = i
    · have g : (l.set i a).getD (q / 3) att0 = a := by rw [hqi]; simp [List.getD, hi]
      rw [g]
      rcases (show q % 3 = 0 ∨ q % 3 = 1 ∨ q % 3 = 2 by omega) with h0 | h0 | h0
      · rw [h0, show q = i * 3 by omega, List.getElem?_set_ne (by omega), List.getElem?_set_ne (by omega), List.getElem?_set_self (by rw [attCells_len]; omega)]; rfl
      · rw [h0, show q = i * 3 + 1 by omega, List.getElem?_set_ne (by omega), List.getElem?_set_self (by rw [List.length_set, attCells_len]; omega)]; rfl
      · rw [h0, show q = i * 3 + 2 by omega, List.getElem?_set_self (by rw [List.length_set, List.length_set, attCells_len]; omega)]; rfl
    · have g : (l.set i a).getD (q / 3) att0 = l.getD (q / 3) att0 := by simp [List.getD, List.getElem?_set_ne (Ne.symm hqi)]
      rw [g, ← attCells_at l hd hm, ← e, List.getElem?_set_ne (by omega), List.getElem?_set_ne (by omega), List.getElem?_set_ne (by omega)]
  · rw [List.getElem?_eq_none (by simp [attCells_len]; omega), List.getElem?_eq_none (by rw [attCells_len, List.length_set]; omega)]
theorem cancel_no {d : DeskM} {n : Int} (h : ¬ (1 ≤ n ∧ n ≤ d.jobs.length)) : d.cancel n = (d, 8) := by
  have : d.ticketB n = false := by simp [DeskM.ticketB]; omega
  rw [DeskM.cancel, this]; rfl
theorem cancel_done {d : DeskM} {n : Int} {i : Nat} (hi : i < d.jobs.length) (hn : n = (i : Int) + 1) (hs : 2 < (d.jobs.getD i jobM0).state) : d.cancel n = (d, 9) := by
  have e : d.ticketB n = true := by simp [DeskM.ticketB]; omega
  have e2 : d.job n.toNat = d.jobs.getD i jobM0 := by rw [DeskM.job, show n.toNat - 1 = i by omega]
  unfold DeskM.cancel
  rw [if_neg (by rw [e]; decide), e2, if_pos hs]
def relW (n : Nat) (a : AttM) : AttM := if a.ticket = n then att0 else a
theorem cancel_ok {d : DeskM} {n : Int} {i : Nat} (hi : i < d.jobs.length) (hn : n = (i : Int) + 1) (hs : ¬ 2 < (d.jobs.getD i jobM0).state) :
    d.cancel n = ({ d with jobs := d.jobs.set i { d.jobs.getD i jobM0 with state := 6 }, queue := DeskM.left d.queue (i + 1), urgent := DeskM.left d.urgent (i + 1), workers := d.workers.map (relW (i + 1)) }, 0) := by
  have e : d.ticketB n = true := by simp [DeskM.ticketB]; omega
  have e3 : n.toNat = i + 1 := by omega
  have e2 : d.job n.toNat = d.jobs.getD i jobM0 := by rw [DeskM.job, e3]; rfl
  unfold DeskM.cancel
  rw [if_neg (by rw [e]; decide), e2, if_neg hs, DeskM.setJob, e3]
  rfl
def relN (n : Nat) (l : List AttM) (j : Nat) : List AttM := (l.take j).map (relW n) ++ l.drop j
theorem relN_len (n : Nat) (l : List AttM) (j : Nat) : (relN n l j).length = l.length := by simp [relN]; omega
theorem relN_zero (n : Nat) (l : List AttM) : relN n l 0 = l := by simp [relN]
theorem relN_all (n : Nat) (l : List AttM) : relN n l l.length = l.map (relW n) := by simp [relN]
theorem relN_at (n : Nat) (l : List AttM) {j : Nat} (hj : j < l.length) : (relN n l j).getD j att0 = l.getD j att0 := by
  have : ((l.take j).map (relW n)).length = j := by simp; omega
  rw [relN, List.getD, List.getElem?_append_right (by omega), this, Nat.sub_self, List.getElem?_drop]
  simp [List.getD]
theorem relN_succ (n : Nat) (l : List AttM) {j : Nat} (hj : j < l.length) : relN n l (j + 1) = (relN n l j).set j (relW n (l.getD j att0)) := by
  have h1 : ((l.take j).map (relW n)).length = j := by simp; omega
  have e : l.getD j att0 = l[j] := by simp [List.getD, hj]
  rw [relN, relN, List.set_append_right _ _ (by omega), h1, Nat.sub_self, List.drop_eq_getElem_cons hj, List.take_succ_eq_append_getElem hj, e, List.map_append, List.append_assoc]
  rfl
theorem set_same (l : List AttM) {j : Nat} (_ : j < l.length) {a : AttM} (h : a = l.getD j att0) : l.set j a = l := by
  subst h
  apply List.ext_getElem?
  intro i
  by_cases e : j = i
  · subst e; rename_i hj; simp [List.getD, hj]
  · rw [List.getElem?_set_ne e]
theorem refCancel_any (F : Nat → Prop) (w : World) (rb : Nat) (d : DeskM) (v : RV) (n : Int) (h : RD F w rb d v) (hn : d.jobs.length ≤ 1000000000) (hq : d.queue.length ≤ 1000000000 ∧ d.urgent.length ≤ 1000000000 ∧ d.workers.length ≤ 1000) (hF : ∀ k, w.heap.size ≤ k → F k) :
    Calls Tryz.prog 36 #[ptrV rb, .int .i64 n] w fun e w' => RStep F w rb (d.cancel n).1 (.int .i64 (d.cancel n).2) e w' := by
  have H : Hid (RD F w rb d v) := h
  have HF : Hid (∀ k, w.heap.size ≤ k → F k) := hF
  have HQ : Hid (d.queue.length ≤ 1000000000 ∧ d.urgent.length ≤ 1000000000 ∧ d.workers.length ≤ 1000) := hq
  obtain ⟨N, hN⟩ : ∃ N, N = d.jobs.length := ⟨_, rfl⟩
  have HN : Hid (N = d.jobs.length) := hN
  rw [← hN] at hn
  obtain ⟨ja, jc, hj⟩ := owns_form h.jobs
  rw [← hN] at hj
  have c4 : w.cell? ⟨rb, 4, none⟩ = some (.slice ja N jc) := by rw [blk_cell h.blk, ← hj]; rfl
  have hrb := blk_lt h.blk
  unfold ptrV
  by_cases hin : 1 ≤ n ∧ n ≤ N
  · obtain ⟨i, hni⟩ : ∃ i : Nat, n = (i : Int) + 1 := ⟨(n - 1).toNat, by omega⟩
    have hi : i < d.jobs.length := by omega
    obtain ⟨g, cap, hv, hgl, hcell⟩ := owns_pos h.jobs (by omega)
    rw [hj, ← hN] at hv
    injection hv with h1 h2 h3
    subst h1 h3
    have cj := (hcell i (by omega)).trans (h.jsGet hi)
    obtain ⟨_, k2⟩ := h.jb i hi
    have e1 : w.cell? ⟨v.js.getD i 0, 1, none⟩ = some (.int .i64 (d.jobs.getD i jobM0).state) := by rw [blk_cell k2]; rfl
    have ef : w.frozen? ⟨v.js.getD i 0, 1, none⟩ = false := blk_free k2
    have hjb := blk_lt k2
    have hne : v.js.getD i 0 ≠ rb := fun e => blk_ne k2 h.blk (by decide) e
    have hw : IntKind.i64.wrap (n - 1) = (i : Int) := by rw [IntKind.wrap_i64]; omega
    have m0 : ¬ n < 1 := by omega
    have m1 : ¬ ((N : Int) < n) := by omega
    have m2 : (i : Int) < (N : Int) := by omega
    have HI : Hid (n = (i : Int) + 1 ∧ i < d.jobs.length) := ⟨hni, hi⟩
    unfold ptrV at cj
    by_cases hst : 2 < (d.jobs.getD i jobM0).state
    · have HP : Hid (d.cancel n = (d, 9)) := cancel_done hi hni hst
      obtain ⟨jb, hjbe⟩ : ∃ jb, jb = v.js.getD i 0 := ⟨_, rfl⟩
      rw [← hjbe] at cj e1 ef hjb hne
      generalize (d.jobs.getD i jobM0).state = st at e1 hst
      clear h hF hq hN hin hi hni k2 hcell hjbe h2 hj
      go_enter Tryz.func36, Tryz.ntmps36
      go_wp2
      go_ret
      rw [HP.out]
      exact ⟨rfl, v, H.out, Fr.refl _ _⟩
    · have HP : Hid (d.cancel n = ({ d with jobs := d.jobs.set i { d.jobs.getD i jobM0 with state := 6 }, queue := DeskM.left d.queue (i + 1), urgent := DeskM.left d.urgent (i + 1), workers := d.workers.map (relW (i + 1)) }, 0)) := cancel_ok hi hni hst
      have H1 : Hid (RD F (w.setCell ⟨v.js.getD i 0, 1, none⟩ (.int .i64 6)) rb { d with jobs := d.jobs.set i { d.jobs.getD i jobM0 with state := 6 } } v ∧ Fr F w (w.setCell ⟨v.js.getD i 0, 1, none⟩ (.int .i64 6))) := h.jobCell hi rfl rfl rfl
      obtain ⟨jb, hjbe⟩ : ∃ jb, jb = v.js.getD i 0 := ⟨_, rfl⟩
      rw [← hjbe] at cj e1 ef hjb hne H1
      generalize (d.jobs.getD i jobM0).state = st at e1 hst
      obtain ⟨qa, qc, hqv⟩ := owns_form h.queue
      have c5 : w.cell? ⟨rb, 5, none⟩ = some (.slice qa d.queue.length qc) := by rw [blk_cell h.blk, ← hqv]; rfl
      clear h hF hq hN hin hi hni k2 hcell hjbe h2 hj
      go_enter Tryz.func36, Tryz.ntmps36
      go_wp2_with fail
      refine name_calls (p := fun X => RD F X rb { d with jobs := d.jobs.set i { d.jobs.getD i jobM0 with state := 6 } } v ∧ Fr F w X) H1.out ?_
      rintro X1 ⟨r1, f1⟩
      have HX1 : Hid (RD F X1 rb { d with jobs := d.jobs.set i { d.jobs.getD i jobM0 with state := 6 } } v ∧ Fr F w X1) := ⟨r1, f1⟩
      have HQV : Hid (v.qv = .slice qa d.queue.length qc) := hqv
      clear r1 f1 c4 c5 cj e1 ef hqv H1
      have hlc := refLeft_any X1 (.slice qa d.queue.length qc) d.queue (i + 1) HQ.out.1 (by rw [← HQV.out]; exact HX1.out.1.queue)
      rw [show ((i + 1 : Nat) : Int) = n by have := HI.out.1; omega] at hlc
      refine hlc.mono ?_
      clear hlc
      rintro e W2 ⟨ov, rfl, hov, hb2⟩
      obtain ⟨oa, oc, rfl⟩ := owns_form hov
      have hs1 := HX1.out.2.size
      have HX2 : Hid (RD F (W2.setCell ⟨rb, 5, none⟩ (.slice oa (DeskM.left d.queue (i + 1)).length oc)) rb { d with jobs := d.jobs.set i { d.jobs.getD i jobM0 with state := 6 }, queue := DeskM.left d.queue (i + 1) } { v with qv := .slice oa (DeskM.left d.queue (i + 1)).length oc } ∧ Fr F w (W2.setCell ⟨rb, 5, none⟩ (.slice oa (DeskM.left d.queue (i + 1)).length oc))) := by
        have := RD.setQ (w1 := W2) (qv := .slice oa (DeskM.left d.queue (i + 1)).length oc) (q := DeskM.left d.queue (i + 1)) HX1.out.1 (owns_base hov (Nat.zero_le _)) (fun k hk => HF.out k (by have := owns_ge hov hk; omega)) (Fr.of_below hb2) (fun k hk hk2 => by have := owns_ge hov hk2; omega)
        exact ⟨this.1, HX1.out.2.trans this.2 (fun _ _ h => h)⟩
      have hrb1 := blk_lt HX1.out.1.blk
      have d5 : W2.cell? ⟨rb, 5, none⟩ = some (.slice qa d.queue.length qc) := (hb2.cell (p := ⟨rb, 5, none⟩) hrb1).trans (by rw [blk_cell HX1.out.1.blk, ← HQV.out]; rfl)
      have df5 : W2.frozen? ⟨rb, 5, none⟩ = false := (hb2.frozen (p := ⟨rb, 5, none⟩) hrb1).trans (blk_free HX1.out.1.blk)
      obtain ⟨ua, uc, huv⟩ := owns_form HX1.out.1.urg
      have HUV : Hid (v.uv = .slice ua d.urgent.length uc) := huv
      have d6 : W2.cell? ⟨rb, 6, none⟩ = some (.slice ua d.urgent.length uc) := (hb2.cell (p := ⟨rb, 6, none⟩) hrb1).trans (by rw [blk_cell HX1.out.1.blk, ← HUV.out]; rfl)
      clear hov hb2 huv
      go_wp2_with fail
      refine name_calls (p := fun X => RD F X rb { d with jobs := d.jobs.set i { d.jobs.getD i jobM0 with state := 6 }, queue := DeskM.left d.queue (i + 1) } { v with qv := .slice oa (DeskM.left d.queue (i + 1)).length oc } ∧ Fr F w X) HX2.out ?_
      rintro X2 ⟨r2, f2⟩
      have HX2' : Hid (RD F X2 rb { d with jobs := d.jobs.set i { d.jobs.getD i jobM0 with state := 6 }, queue := DeskM.left d.queue (i + 1) } { v with qv := .slice oa (DeskM.left d.queue (i + 1)).length oc } ∧ Fr F w X2) := ⟨r2, f2⟩
      clear r2 f2 HX2 d5 df5 d6 HX1
      have hlc := refLeft_any X2 (.slice ua d.urgent.length uc) d.urgent (i + 1) HQ.out.2.1 (by rw [← HUV.out]; exact HX2'.out.1.urg)
      rw [show ((i + 1 : Nat) : Int) = n by have := HI.out.1; omega] at hlc
      refine hlc.mono ?_
      clear hlc
      rintro e W3 ⟨ov, rfl, hov, hb3⟩
      obtain ⟨pa, pc, rfl⟩ := owns_form hov
      have hs2 := HX2'.out.2.size
      have HX3 : Hid (RD F (W3.setCell ⟨rb, 6, none⟩ (.slice pa (DeskM.left d.urgent (i + 1)).length pc)) rb { d with jobs := d.jobs.set i { d.jobs.getD i jobM0 with state := 6 }, queue := DeskM.left d.queue (i + 1), urgent := DeskM.left d.urgent (i + 1) } { v with qv := .slice oa (DeskM.left d.queue (i + 1)).length oc, uv := .slice pa (DeskM.left d.urgent (i + 1)).length pc } ∧ Fr F w (W3.setCell ⟨rb, 6, none⟩ (.slice pa (DeskM.left d.urgent (i + 1)).length pc))) := by
        have := RD.setU (w1 := W3) (uv := .slice pa (DeskM.left d.urgent (i + 1)).length pc) (q := DeskM.left d.urgent (i + 1)) HX2'.out.1 (owns_base hov (Nat.zero_le _)) (fun k hk => HF.out k (by have := owns_ge hov hk; omega)) (Fr.of_below hb3) (fun k hk hk2 => by have := owns_ge hov hk2; omega)
        exact ⟨this.1, HX2'.out.2.trans this.2 (fun _ _ h => h)⟩
      have hrb2 := blk_lt HX2'.out.1.blk
      have g6 : W3.cell? ⟨rb, 6, none⟩ = some (.slice ua d.urgent.length uc) := (hb3.cell (p := ⟨rb, 6, none⟩) hrb2).trans (by rw [blk_cell HX2'.out.1.blk, ← HUV.out]; rfl)
      have gf6 : W3.frozen? ⟨rb, 6, none⟩ = false := (hb3.frozen (p := ⟨rb, 6, none⟩) hrb2).trans (blk_free HX2'.out.1.blk)
      obtain ⟨wa, wc, hwv⟩ := owns_form HX3.out.1.work
      have HWV : Hid (v.wv = .slice wa d.workers.length wc) := hwv
      have hM := HQ.out.2.2
      obtain ⟨M, hMe⟩ : ∃ M, M = d.workers.length := ⟨_, rfl⟩
      have HM : Hid (M = d.workers.length) := hMe
      rw [← hMe] at hM
      clear hov hb3 hwv HX2' hMe
      go_wp2
      go_loopw [6] (fun q wr => ∃ j : Nat, j ≤ M ∧ q = .int .i64 j ∧ RD F wr rb { d with jobs := d.jobs.set i { d.jobs.getD i jobM0 with state := 6 }, queue := DeskM.left d.queue (i + 1), urgent := DeskM.left d.urgent (i + 1), workers := relN (i + 1) d.workers j } { v with qv := .slice oa (DeskM.left d.queue (i + 1)).length oc, uv := .slice pa (DeskM.left d.urgent (i + 1)).length pc } ∧ Fr F w wr) (fun q _ => M - (intOf q).toNat)
      case atStart => exact ⟨0, Nat.zero_le _, rfl, by rw [relN_zero]; exact HX3.out.1, HX3.out.2⟩
      case round =>
        obtain ⟨j, hj, rfl, hR, hfr⟩ := hrel
        have HR : Hid (RD F wr rb { d with jobs := d.jobs.set i { d.jobs.getD i jobM0 with state := 6 }, queue := DeskM.left d.queue (i + 1), urgent := DeskM.left d.urgent (i + 1), workers := relN (i + 1) d.workers j } { v with qv := .slice oa (DeskM.left d.queue (i + 1)).length oc, uv := .slice pa (DeskM.left d.urgent (i + 1)).length pc } ∧ Fr F w wr) := ⟨hR, hfr⟩
        have c7 : wr.cell? ⟨rb, 7, none⟩ = some (.slice wa M wc) := by rw [blk_cell hR.blk, HM.out, ← HWV.out]; rfl
        clear hR hfr HX3 g6 gf6
        by_cases hlt : j < M
        · have hjl : j < d.workers.length := by rw [← HM.out]; exact hlt
          have hrl : (relN (i + 1) d.workers j).length = d.workers.length := relN_len _ _ _
          obtain ⟨wg, wcap, hv, hgl2, hcell2⟩ := owns_pos HR.out.1.work (by show 0 < (relN (i + 1) d.workers j).length; omega)
          have hv : v.wv = .slice (some ⟨wg, 0, none⟩) (relN (i + 1) d.workers j).length wcap := hv
          rw [HWV.out] at hv
          injection hv with h1 h2 h3
          subst h1 h3
          have hat : ∀ k, k < 3 → wr.cell? ⟨wg, j * 3 + k, none⟩ = (attC (d.workers.getD j att0))[k]? := fun k hk => by
            rw [hcell2 (j * 3 + k) (by show j * 3 + k < (relN (i + 1) d.workers j).length * 3; omega)]
            show (attCells (relN (i + 1) d.workers j))[j * 3 + k]? = _
            rw [attCells_at _ (by omega) hk, relN_at _ _ hjl]
          have a0 : wr.cell? ⟨wg, j * 3, none⟩ = some (.int .i64 ((d.workers.getD j att0).ticket : Nat)) := (hat 0 (by decide)).trans rfl
          have a1 : wr.cell? ⟨wg, j * 3 + 1, none⟩ = some (.int .i64 ((d.workers.getD j att0).beg : Nat)) := (hat 1 (by decide)).trans rfl
          have a2 : wr.cell? ⟨wg, j * 3 + 2, none⟩ = some (.int .i64 ((d.workers.getD j att0).done : Nat)) := (hat 2 (by decide)).trans rfl
          have HW : Hid (wr.ownsRow 0 136 3 (.slice (some ⟨wg, 0, none⟩) d.workers.length wc) d.workers.length (attCells (relN (i + 1) d.workers j))) := by
            have hx : wr.ownsRow 0 136 3 v.wv (relN (i + 1) d.workers j).length (attCells (relN (i + 1) d.workers j)) := HR.out.1.work
            rw [hrl, HWV.out] at hx
            exact hx
          have wf : ∀ q, wr.frozen? ⟨wg, q, none⟩ = false := fun q => HW.out.frozenAt q
          have HSu : Hid (relN (i + 1) d.workers (j + 1) = (relN (i + 1) d.workers j).set j (relW (i + 1) (d.workers.getD j att0))) := relN_succ _ _ hjl
          have HAt : Hid ((relN (i + 1) d.workers j).getD j att0 = d.workers.getD j att0) := relN_at _ _ hjl
          have HTk : Hid ((d.workers.getD j att0).ticket = i + 1 ↔ (((d.workers.getD j att0).ticket : Nat) : Int) = n) := by have := HI.out.1; constructor <;> intro h <;> omega
          have m3 : (j : Int) < (M : Int) := by omega
          clear hat hcell2 h2
          by_cases htk : (d.workers.getD j att0).ticket = i + 1
          · have htn := HTk.out.1 htk
            have HX : Hid (RD F (((wr.setCell ⟨wg, j * 3, none⟩ (.int .i64 0)).setCell ⟨wg, j * 3 + 1, none⟩ (.int .i64 0)).setCell ⟨wg, j * 3 + 2, none⟩ (.int .i64 0)) rb { d with jobs := d.jobs.set i { d.jobs.getD i jobM0 with state := 6 }, queue := DeskM.left d.queue (i + 1), urgent := DeskM.left d.urgent (i + 1), workers := relN (i + 1) d.workers (j + 1) } { v with qv := .slice oa (DeskM.left d.queue (i + 1)).length oc, uv := .slice pa (DeskM.left d.urgent (i + 1)).length pc } ∧ Fr F w (((wr.setCell ⟨wg, j * 3, none⟩ (.int .i64 0)).setCell ⟨wg, j * 3 + 1, none⟩ (.int .i64 0)).setCell ⟨wg, j * 3 + 2, none⟩ (.int .i64 0))) := by
              have hwb : ∀ k, k = wg → v.wv.ownBlock = some k := fun k hk => by rw [HWV.out, hk]; rfl
              have hown := (((HW.out.stored (j * 3) (.int .i64 0)).1.stored (j * 3 + 1) (.int .i64 0)).1.stored (j * 3 + 2) (.int .i64 0)).1
              have ee := attCells_set (relN (i + 1) d.workers j) (i := j) (by omega) att0
              have e2 : (((attCells (relN (i + 1) d.workers j)).set (j * 3) (.int .i64 0)).set (j * 3 + 1) (.int .i64 0)).set (j * 3 + 2) (.int .i64 0) = attCells ((relN (i + 1) d.workers j).set j att0) := ee
              rw [e2] at hown
              have hws : relN (i + 1) d.workers (j + 1) = (relN (i + 1) d.workers j).set j att0 := by rw [HSu.out, relW, if_pos htk]
              have := RD.setW (ws := relN (i + 1) d.workers (j + 1)) (w1 := ((wr.setCell ⟨wg, j * 3, none⟩ (.int .i64 0)).setCell ⟨wg, j * 3 + 1, none⟩ (.int .i64 0)).setCell ⟨wg, j * 3 + 2, none⟩ (.int .i64 0)) HR.out.1 (by show _ = (relN (i + 1) d.workers j).length; rw [relN_len, relN_len]) (by show World.ownsRow _ 0 _ 3 v.wv (relN (i + 1) d.workers j).length _; rw [hrl, HWV.out, hws]; exact hown)
                ((((Fr.refl _ wr).setCell (p := ⟨wg, _, none⟩) (fun _ => hwb wg rfl) _).setCell (p := ⟨wg, _, none⟩) (fun _ => hwb wg rfl) _).setCell (p := ⟨wg, _, none⟩) (fun _ => hwb wg rfl) _)
              exact ⟨this.1, HR.out.2.trans this.2 (fun _ _ h => h)⟩
            generalize (d.workers.getD j att0).ticket = tk at a0 htn
            generalize (d.workers.getD j att0).beg = bg at a1
            generalize (d.workers.getD j att0).done = dn at a2
            clear htk HTk
            go_wp2
            go_roundw
            case rel => exact ⟨j + 1, by omega, by go_num, HX.out.1, HX.out.2⟩
            case measure => simp [intOf]; omega
          · have htn : ¬ (((d.workers.getD j att0).ticket : Nat) : Int) = n := fun h => htk (HTk.out.2 h)
            have HX : Hid (relN (i + 1) d.workers (j + 1) = relN (i + 1) d.workers j) := by
              show _ = _
              rw [HSu.out, relW, if_neg htk]
              exact set_same _ (by omega) HAt.out.symm
            generalize (d.workers.getD j att0).ticket = tk at a0 htn
            clear htk HTk a1 a2
            go_wp2
            go_roundw
            case rel => exact ⟨j + 1, by omega, by go_num, by rw [HX.out]; exact HR.out.1, HR.out.2⟩
            case measure => simp [intOf]; omega
        · obtain rfl : j = M := by omega
          have HE : Hid (relN (i + 1) d.workers j = d.workers.map (relW (i + 1))) := by rw [HM.out]; exact relN_all _ _
          go_wp2
          go_ret
          rw [HP.out]
          have := HR.out.1
          rw [HE.out] at this
          exact ⟨rfl, _, this, HR.out.2⟩
  · have HP : Hid (d.cancel n = (d, 8)) := cancel_no (by rw [← hN]; exact hin)
    have hin' : n < 1 ∨ (¬ n < 1 ∧ (N : Int) < n) := by omega
    clear h hF hq hN hin hj
    rcases hin' with q | ⟨q, q2⟩
    all_goals
      go_enter Tryz.func36, Tryz.ntmps36
      go_wp2
      go_ret
      rw [HP.out]
      exact ⟨rfl, v, H.out, Fr.refl _ _⟩
end Go.Proofs.YtlbmcdoldnajoaaGreat
