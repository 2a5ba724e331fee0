import Derived.Test.YtlbmcdoldnajoaaGreatRefD
set_option maxRecDepth 100000
set_option maxHeartbeats 1000000
namespace Go.Proofs.YtlbmcdoldnajoaaGreat
open Go.RowKit
def LeftP (xs : List Nat) (w : World) (e : Ending) (w' : World) : Prop := ∃ ov, e = .returned ov ∧ w'.ownsRow w.heap.size 3 1 ov xs.length (xs.map natV) ∧ Below w.heap.size w w'
def LeftRel (xs : List Nat) (w : World) (ov : Value) (wr : World) : Prop := wr.ownsRow w.heap.size 3 1 ov xs.length (xs.map natV) ∧ Below w.heap.size w wr
theorem rleft_take (l : List Nat) (n j : Nat) (hj : j < l.length) : DeskM.left (l.take (j + 1)) n = DeskM.left (l.take j) n ++ if l.getD j 0 ≠ n then [l.getD j 0] else [] := by
  unfold DeskM.left
  rw [List.take_succ_eq_append_getElem hj, List.filter_append]
  congr 1
  have e : l.getD j 0 = l[j] := by simp [List.getD, hj]
  rw [e]
  by_cases h : l[j] = n
  · rw [if_neg (by simpa using h)]; simp [h]
  · rw [if_pos h]; simp [h]
theorem rleft_len (l : List Nat) (n : Nat) : (DeskM.left l n).length ≤ l.length := List.length_filter_le _ _
theorem refLeft_any (w : World) (lv : Value) (l : List Nat) (n : Nat) (hl : l.length ≤ 1000000000) (h : w.ownsRow 0 3 1 lv l.length (l.map natV)) :
    Calls Tryz.prog 65 #[lv, .int .i64 (n : Int)] w fun e w' => LeftP (DeskM.left l n) w e w' := by
  have H : Hid (w.ownsRow 0 3 1 lv l.length (l.map natV)) := h
  obtain ⟨la, lc, rfl⟩ := owns_form h
  obtain ⟨N, hN⟩ : ∃ N, N = l.length := ⟨_, rfl⟩
  have HN : Hid (N = l.length) := hN
  rw [← hN] at hl ⊢
  clear h hN
  obtain ⟨i0, hi, hz0, hz1, hz2⟩ := info_parts Tryz.infoInt
  go_enter Tryz.func65, Tryz.ntmps65
  go_wp2
  go_loopw [5, 6] (fun out i wr => ∃ j : Nat, j ≤ N ∧ i = .int .i64 j ∧ LeftRel (DeskM.left (l.take j) n) w out wr) (fun _ i _ => N - (intOf i).toNat)
  case atStart => exact ⟨0, Nat.zero_le _, rfl, World.ownsRow_nil _ _ _ _, Below.refl _ _⟩
  case round =>
    obtain ⟨j, hj, rfl, hrel⟩ := hrel
    obtain ⟨oa, oc, rfl⟩ := owns_form hrel.1
    have HR : Hid (LeftRel (DeskM.left (l.take j) n) w _ wr) := hrel
    clear hrel
    by_cases hlt : j < N
    · have hjl : j < l.length := by rw [← HN.out]; exact hlt
      obtain ⟨g, cap, hv, hgl, hcell⟩ := owns_pos H.out (by omega)
      injection hv with h1 h2 h3
      subst h1 h3
      have cj := (HR.out.2.cell (p := ⟨g, j, none⟩) hgl).trans ((hcell j (by omega)).trans (show (l.map natV)[j]? = some (.int .i64 (l.getD j 0 : Nat)) by simp [List.getD, hjl, natV]))
      have HS : Hid (DeskM.left (l.take (j + 1)) n = DeskM.left (l.take j) n ++ if l.getD j 0 ≠ n then [l.getD j 0] else []) := rleft_take l n j hjl
      have hlen : (DeskM.left (l.take j) n).length ≤ 1000000000 := by have := rleft_len (l.take j) n; simp at this; omega
      have hsz := HR.out.2.size
      have m1 : (j : Int) < (N : Int) := by omega
      generalize l.getD j 0 = q at cj HS
      generalize hLL : DeskM.left (l.take j) n = LL at *
      clear hcell h2
      by_cases hq : q = n
      · subst hq
        go_wp2
        go_roundw
        case rel => exact ⟨j + 1, by omega, by go_num, by rw [HS.out, if_neg (by simp), List.append_nil]; exact HR.out⟩
        case measure => simp [intOf]; omega
      · have hq' : ¬ ((q : Int) = (n : Int)) := by omega
        go_wp2_with (at_builtin; refine wpList_append_lies _ (by rfl) _ _ 55 (by rfl) w.heap.size 3 i0 _ 1 8 Tryz.underlying55 hi hz0 hz1 hz2 (by rfl) (by decide) _ _ _ (by rfl) (HR.out.1.alloc _) ⟨wr.heap.size, 0, none⟩ 1 1 [.int .i64 (q : Int)] (by rfl) (by rfl) ?_ ?_ (by decide) ?_ ?_ ?_ _ (by rfl) ?_)
        · exact World.news_of_block (heap_alloc_new _ _)
        · intro u hu; simp at hu; subst hu; rfl
        · unfold maxLen; omega
        · omega
        · simp; omega
        · intro g1 cap1 w2 hown2 hgrow2 hat hlt2
          have HX : Hid (LeftRel (DeskM.left (l.take (j + 1)) n) w (.slice (some ⟨g1, 0, none⟩) (LL.length + 1) cap1) w2) := by
            rw [HS.out, if_pos hq]
            refine ⟨?_, (HR.out.2.alloc hsz _).grown hgrow2 (by simp; omega) (fun k hk => owns_ge HR.out.1 hk)⟩
            rw [List.map_append, List.length_append]
            exact hown2
          clear hown2 hgrow2 hat hlt2
          go_wp2
          go_roundw
          case rel => exact ⟨j + 1, by omega, by go_num, HX.out⟩
          case measure => simp [intOf]; omega
    · obtain rfl : j = N := by omega
      have e : l.take j = l := by rw [HN.out]; exact List.take_length
      rw [e] at HR ⊢
      go_wp2
      go_ret
      exact ⟨_, rfl, HR.out.1, HR.out.2⟩
def BoolsV (w : World) (v : Value) (l : List Bool) : Prop := w.ownsRow 0 4 1 v 16 (l.map Value.bool)
def rshareN (a b : List Bool) (j : Nat) : Bool := (List.range j).any fun k => a.getD k false && b.getD k false
theorem rshareN_succ (a b : List Bool) (j : Nat) : rshareN a b (j + 1) = (rshareN a b j || (a.getD j false && b.getD j false)) := by simp [rshareN, List.range_succ]
theorem share_hit {a b : List Bool} {j : Nat} (hj : j < 16) (h : (a.getD j false && b.getD j false) = true) : DeskM.share a b = true := by
  rw [DeskM.share, List.any_eq_true]
  exact ⟨j, List.mem_range.2 hj, h⟩
theorem refShare_any (w : World) (av bv : Value) (a b : List Bool) (ha : BoolsV w av a) (hb : BoolsV w bv b) :
    Calls Tryz.prog 119 #[av, bv] w fun e w' => e = .returned (.bool (DeskM.share a b)) ∧ w' = w := by
  obtain ⟨ag, ac, rfl, hag, hac⟩ := owns_pos ha (by decide)
  obtain ⟨bg, bc, rfl, hbg, hbc⟩ := owns_pos hb (by decide)
  have hla : a.length = 16 := by simpa using ha.1
  have hlb : b.length = 16 := by simpa using hb.1
  have HA : Hid (∀ j, j < 16 → w.cell? ⟨ag, j, none⟩ = some (.bool (a.getD j false))) := fun j hj => by rw [hac j (by omega)]; simp [List.getD, hla, hj]
  have HB : Hid (∀ j, j < 16 → w.cell? ⟨bg, j, none⟩ = some (.bool (b.getD j false))) := fun j hj => by rw [hbc j (by omega)]; simp [List.getD, hlb, hj]
  clear ha hb hac hbc hla hlb
  go_enter Tryz.func119, Tryz.ntmps119
  go_wp2
  go_loop [5] (fun i => ∃ j : Nat, j ≤ 16 ∧ i = .int .i64 j ∧ rshareN a b j = false) (fun i => 16 - (intOf i).toNat)
  case atStart => exact ⟨0, Nat.zero_le _, rfl, rfl⟩
  case round =>
    obtain ⟨j, hj, rfl, hs⟩ := hrel
    have HS : Hid (rshareN a b j = false) := hs
    clear hs
    by_cases hlt : j < 16
    · have c0 := HA.out j hlt
      have c1 := HB.out j hlt
      have HSt : Hid (rshareN a b (j + 1) = (rshareN a b j || (a.getD j false && b.getD j false))) := rshareN_succ a b j
      have HSh : Hid ((a.getD j false && b.getD j false) = true → DeskM.share a b = true) := share_hit hlt
      generalize a.getD j false = x at c0 HSt HSh
      generalize b.getD j false = y at c1 HSt HSh
      have m1 : (j : Int) < 16 := by omega
      cases x
      · go_wp2
        go_round
        case rel => exact ⟨j + 1, by omega, by go_num, by rw [HSt.out, HS.out]; rfl⟩
        case measure => simp [intOf]; omega
      · cases y
        · go_wp2
          go_round
          case rel => exact ⟨j + 1, by omega, by go_num, by rw [HSt.out, HS.out]; rfl⟩
          case measure => simp [intOf]; omega
        · go_wp2
          go_ret
          exact ⟨by rw [HSh.out rfl]; rfl, rfl⟩
    · obtain rfl : j = 16 := by omega
      have hfin : Hid (DeskM.share a b = false) := HS.out
      go_wp2
      go_ret
      exact ⟨by rw [hfin.out]; rfl, rfl⟩
def wtN (l : List JobM) : Nat := (l.filter fun j => decide (j.state = 1)).length
theorem wtN_take (l : List JobM) (j : Nat) (hj : j < l.length) : wtN (l.take (j + 1)) = wtN (l.take j) + if (l.getD j jobM0).state = 1 then 1 else 0 := by
  unfold wtN
  have e : l.getD j jobM0 = l[j] := by simp [List.getD, hj]
  rw [List.take_succ_eq_append_getElem hj, List.filter_append, List.length_append, e]
  by_cases h : l[j].state = 1
  · rw [if_pos h]; simp [h]
  · rw [if_neg h]; simp [h]
theorem wtN_le (l : List JobM) (j : Nat) : wtN (l.take j) ≤ j := by
  have h1 := List.length_filter_le (fun j : JobM => decide (j.state = 1)) (l.take j)
  have h2 : (l.take j).length ≤ j := by simp; omega
  unfold wtN; omega
theorem waiting_eq (d : DeskM) : d.waiting = wtN d.jobs := rfl
theorem Tryz.infoJp : (Tryz.prog.info? 131).map (fun i => (i.zero, i.size, i.bytes)) = some (some (.pointer none), 1, 8) := by kernel_rfl
def RStep (F : Nat → Prop) (w : World) (rb : Nat) (d' : DeskM) (r : Value) (e : Ending) (w' : World) : Prop := e = .returned r ∧ ∃ v', RD F w' rb d' v' ∧ Fr F w w'
theorem submit_no {d : DeskM} {l : List St} (h : jobB l = false) : d.submit l = (d, 0, 1) := by simp [DeskM.submit, h]
theorem submit_full {d : DeskM} {l : List St} (h : jobB l = true) (h2 : d.c.queue ≤ d.waiting) : d.submit l = (d, 0, 5) := by simp [DeskM.submit, h, h2]
theorem submit_ok {d : DeskM} {l : List St} (h : jobB l = true) (h2 : ¬ d.c.queue ≤ d.waiting) : d.submit l = ({ d with jobs := d.jobs ++ [⟨l, 1, [], 0, 0, false⟩], queue := d.queue ++ [d.jobs.length + 1] }, d.jobs.length + 1, 0) := by simp [DeskM.submit, h, h2]
theorem RD.keepRow {F R : Nat → Prop} {w w1 : World} {rb : Nat} {d : DeskM} {v : RV} (h : RD F w rb d v) (hf : Fr R w w1) (hrb : ¬ R rb) {e : TypeId} {s : Nat} {u : Value} {n : Nat} {xs : List Value} (hu : w.ownsRow 0 e s u n xs) (hne : ∀ k, u.ownBlock = some k → ¬ R k) (ht : e ≠ 65) (i : Nat) (x : Value) : (w1.setCell ⟨rb, i, none⟩ x).ownsRow 0 e s u n xs :=
  have h1 := owns_fr hu hf hne
  owns_set h1 (owns_ne h1 (hf.blk h.blk hrb) ht) i x
theorem RD.keepBlk {F R : Nat → Prop} {w w1 : World} {rb : Nat} {d : DeskM} {v : RV} (h : RD F w rb d v) (hf : Fr R w w1) {b : Nat} {c : Array Value} {t : TypeId} (hb : w.heap[b]? = some (.cells c t (0, 0))) (hr : ¬ R b) (ht : t ≠ 65) (i : Nat) (x : Value) : (w1.setCell ⟨rb, i, none⟩ x).heap[b]? = some (.cells c t (0, 0)) :=
  (blk_other (fun e => blk_ne hb h.blk ht e) i x).trans (hf.blk hb hr)
theorem RD.pushQ {F : Nat → Prop} {w w1 : World} {rb : Nat} {d : DeskM} {v : RV} (h : RD F w rb d v) (hF : ∀ k, w.heap.size ≤ k → F k) {g cap m : Nat} (hown : w1.ownsRow 0 3 1 (.slice (some ⟨g, 0, none⟩) (d.queue.length + 1) cap) (d.queue.length + 1) (d.queue.map natV ++ [natV m]))
    (hf : Fr (fun k => v.qv.ownBlock = some k) w w1) (hat : v.qv.ownBlock = some g ∨ w.heap.size ≤ g) :
    RD F (w1.setCell ⟨rb, 5, none⟩ (.slice (some ⟨g, 0, none⟩) (d.queue.length + 1) cap)) rb { d with queue := d.queue ++ [m] } { v with qv := .slice (some ⟨g, 0, none⟩) (d.queue.length + 1) cap } ∧ Fr F w (w1.setCell ⟨rb, 5, none⟩ (.slice (some ⟨g, 0, none⟩) (d.queue.length + 1) cap)) := by
  have hrb : ¬ v.qv.ownBlock = some rb := owns_ne h.queue h.blk (by decide)
  have hb1 := hf.blk h.blk hrb
  have hqF : ∀ k, (Value.slice (some ⟨g, 0, none⟩) (d.queue.length + 1) cap).ownBlock = some k → F k := fun k hk => by
    injection hk with hk
    have hk : g = k := hk
    subst hk
    rcases hat with hat | hat
    · exact h.qF _ hat
    · exact hF _ hat
  have hnew : ∀ k, k < w.heap.size → (Value.slice (some ⟨g, 0, none⟩) (d.queue.length + 1) cap).ownBlock = some k → v.qv.ownBlock = some k := fun k hl hk => by
    injection hk with hk
    have hk : g = k := hk
    subst hk
    rcases hat with hat | hat
    · exact hat
    · omega
  have hty : ∀ {e : TypeId} {s : Nat} {u : Value} {n : Nat} {xs : List Value}, w.ownsRow 0 e s u n xs → e ≠ 3 → ∀ k, u.ownBlock = some k → ¬ v.qv.ownBlock = some k := fun hu he k hk hq => own_types hu h.queue he hk hq
  have hbt : ∀ {b : Nat} {c : Array Value} {t : TypeId}, w.heap[b]? = some (.cells c t (0, 0)) → t ≠ 3 → ¬ v.qv.ownBlock = some b := fun hb ht hq => owns_ne h.queue hb (fun e => ht e.symm) hq
  refine ⟨?_, (hf.mono (T := F) (fun k _ hk => h.qF k hk)).setCell (p := ⟨rb, 5, none⟩) (fun _ => h.inF) _⟩
  exact { inF := h.inF
          blk := by rw [blk_set hb1]; rfl
          jobs := h.keepRow hf hrb h.jobs (hty h.jobs (by decide)) (by decide) _ _
          jF := h.jF
          queue := by
            rw [List.map_append, List.length_append]
            exact owns_set hown (owns_ne hown hb1 (by decide)) _ _
          qF := hqF
          urg := h.keepRow hf hrb h.urg (fun k hk hq => h.qu k hq hk) (by decide) _ _
          uF := h.uF
          qu := fun k hk hu => h.qu k (hnew k (owns_lt h.urg hu).2 hk) hu
          work := h.keepRow hf hrb h.work (hty h.work (by decide)) (by decide) _ _
          wF := h.wF
          goods := h.keepRow hf hrb h.goods (hty h.goods (by decide)) (by decide) _ _
          gF := h.gF
          jb := fun i hi => ⟨(h.jb i hi).1, h.keepBlk hf (h.jb i hi).2 (hbt (h.jb i hi).2 (by decide)) (by decide) _ _⟩
          nd := h.nd
          st := fun i hi => ⟨h.keepRow hf hrb (h.st i hi).1 (hty (h.st i hi).1 (by decide)) (by decide) _ _, (h.st i hi).2⟩
          told := fun i hi => ⟨h.keepRow hf hrb (h.told i hi).1 (fun k hk => ((h.told i hi).2 k hk).2.1) (by decide) _ _, fun k hk => ⟨((h.told i hi).2 k hk).1, fun hq => ((h.told i hi).2 k hk).2.1 (hnew k (owns_lt (h.told i hi).1 hk).2 hq), ((h.told i hi).2 k hk).2.2⟩⟩
          sl := h.sl
          tl := h.tl
          gl := h.gl
          gb := fun i hi => by
            obtain ⟨h1, h2, h3, h4, h5, h6⟩ := h.gb i hi
            exact ⟨h.keepRow hf hrb h1 (hty h1 (by decide)) (by decide) _ _, h.keepRow hf hrb h2 (hty h2 (by decide)) (by decide) _ _, h.keepRow hf hrb h3 (hty h3 (by decide)) (by decide) _ _, h4, h5, h6⟩ }
theorem RD.addJob {F : Nat → Prop} {w w1 : World} {rb : Nat} {d : DeskM} {v : RV} (h : RD F w rb d v) (hF : ∀ k, w.heap.size ≤ k → F k) {g cap jb : Nat} {sv : Value} {l : List St} (hown : w1.ownsRow 0 131 1 (.slice (some ⟨g, 0, none⟩) (d.jobs.length + 1) cap) (d.jobs.length + 1) (v.js.map ptrV ++ [ptrV jb]))
    (hf : Fr (fun k => v.jv.ownBlock = some k) w w1) (hat : v.jv.ownBlock = some g ∨ w.heap.size ≤ g) (hjb : w.heap.size ≤ jb) (hblk : w1.heap[jb]? = some (.cells (jobC ⟨l, 1, [], 0, 0, false⟩ sv nilV) 133 (0, 0)))
    (hsv : w1.ownsRow 0 95 4 sv l.length (stCells l)) (hsn : ∀ k, sv.ownBlock = some k → F k) :
    RD F (w1.setCell ⟨rb, 4, none⟩ (.slice (some ⟨g, 0, none⟩) (d.jobs.length + 1) cap)) rb { d with jobs := d.jobs ++ [⟨l, 1, [], 0, 0, false⟩] } { v with jv := .slice (some ⟨g, 0, none⟩) (d.jobs.length + 1) cap, js := v.js ++ [jb], sv := v.sv ++ [sv], tv := v.tv ++ [nilV] } ∧
      Fr F w (w1.setCell ⟨rb, 4, none⟩ (.slice (some ⟨g, 0, none⟩) (d.jobs.length + 1) cap)) := by
  have hrb : ¬ v.jv.ownBlock = some rb := owns_ne h.jobs h.blk (by decide)
  have hb1 := hf.blk h.blk hrb
  have hrl := blk_lt h.blk
  have hjl : v.js.length = d.jobs.length := by simpa using h.jobs.1
  have hls := h.sl
  have hlt := h.tl
  have hty : ∀ {e : TypeId} {s : Nat} {u : Value} {n : Nat} {xs : List Value}, w.ownsRow 0 e s u n xs → e ≠ 131 → ∀ k, u.ownBlock = some k → ¬ v.jv.ownBlock = some k := fun hu he k hk hq => own_types hu h.jobs he hk hq
  have hbt : ∀ {b : Nat} {c : Array Value} {t : TypeId}, w.heap[b]? = some (.cells c t (0, 0)) → t ≠ 131 → ¬ v.jv.ownBlock = some b := fun hb ht hq => owns_ne h.jobs hb (fun e => ht e.symm) hq
  have hcase : ∀ i, i < (d.jobs ++ [(⟨l, 1, [], 0, 0, false⟩ : JobM)]).length → i < d.jobs.length ∨ i = d.jobs.length := fun i hi => by simp at hi; omega
  have gj : ∀ i, i < d.jobs.length → (d.jobs ++ [(⟨l, 1, [], 0, 0, false⟩ : JobM)]).getD i jobM0 = d.jobs.getD i jobM0 := fun i hi => by simp [List.getD, List.getElem?_append_left hi]
  have gj' : (d.jobs ++ [(⟨l, 1, [], 0, 0, false⟩ : JobM)]).getD d.jobs.length jobM0 = ⟨l, 1, [], 0, 0, false⟩ := by simp [List.getD]
  have gb : ∀ i, i < d.jobs.length → (v.js ++ [jb]).getD i 0 = v.js.getD i 0 := fun i hi => by simp [List.getD, List.getElem?_append_left (show i < v.js.length by omega)]
  have gb' : (v.js ++ [jb]).getD d.jobs.length 0 = jb := by simp [List.getD, ← hjl]
  have gs : ∀ i, i < d.jobs.length → (v.sv ++ [sv]).getD i nilV = v.sv.getD i nilV := fun i hi => by simp [List.getD, List.getElem?_append_left (show i < v.sv.length by omega)]
  have gs' : (v.sv ++ [sv]).getD d.jobs.length nilV = sv := by simp [List.getD, ← hls]
  have gt : ∀ i, i < d.jobs.length → (v.tv ++ [nilV]).getD i nilV = v.tv.getD i nilV := fun i hi => by simp [List.getD, List.getElem?_append_left (show i < v.tv.length by omega)]
  have gt' : (v.tv ++ [nilV]).getD d.jobs.length nilV = nilV := by simp [List.getD, ← hlt]
  have old : ∀ i, i < d.jobs.length → v.js.getD i 0 < w.heap.size := fun i hi => blk_lt (h.jb i hi).2
  refine ⟨?_, (hf.mono (T := F) (fun k _ hk => h.jF k hk)).setCell (p := ⟨rb, 4, none⟩) (fun _ => h.inF) _⟩
  exact { inF := h.inF
          blk := by rw [blk_set hb1]; rfl
          jobs := by
            rw [List.length_append, List.map_append]
            exact owns_set hown (owns_ne hown hb1 (by decide)) _ _
          jF := fun k hk => by
            injection hk with hk
            have hk : g = k := hk
            subst hk
            rcases hat with hat | hat
            · exact h.jF _ hat
            · exact hF _ hat
          queue := h.keepRow hf hrb h.queue (hty h.queue (by decide)) (by decide) _ _
          qF := h.qF
          urg := h.keepRow hf hrb h.urg (hty h.urg (by decide)) (by decide) _ _
          uF := h.uF
          qu := h.qu
          work := h.keepRow hf hrb h.work (hty h.work (by decide)) (by decide) _ _
          wF := h.wF
          goods := h.keepRow hf hrb h.goods (hty h.goods (by decide)) (by decide) _ _
          gF := h.gF
          jb := fun i hi => by
            rcases hcase i hi with hi | rfl
            · show F ((v.js ++ [jb]).getD i 0) ∧ _
              simp only [gj i hi, gb i hi, gs i hi, gt i hi]
              exact ⟨(h.jb i hi).1, h.keepBlk hf (h.jb i hi).2 (hbt (h.jb i hi).2 (by decide)) (by decide) _ _⟩
            · show F ((v.js ++ [jb]).getD d.jobs.length 0) ∧ _
              simp only [gj', gb', gs', gt']
              exact ⟨hF _ hjb, (blk_other (show jb ≠ rb by omega) _ _).trans hblk⟩
          nd := fun i k hi hk he => by
            have he : (v.js ++ [jb]).getD i 0 = (v.js ++ [jb]).getD k 0 := he
            rcases hcase i hi with hi | rfl <;> rcases hcase k hk with hk | rfl
            · rw [gb i hi, gb k hk] at he; exact h.nd i k hi hk he
            · rw [gb i hi, gb'] at he; have := old i hi; omega
            · rw [gb', gb k hk] at he; have := old k hk; omega
            · rfl
          st := fun i hi => by
            rcases hcase i hi with hi | rfl
            · simp only [gj i hi, gs i hi]
              exact ⟨h.keepRow hf hrb (h.st i hi).1 (hty (h.st i hi).1 (by decide)) (by decide) _ _, (h.st i hi).2⟩
            · simp only [gj', gs']
              exact ⟨owns_set hsv (owns_ne hsv hb1 (by decide)) _ _, hsn⟩
          told := fun i hi => by
            rcases hcase i hi with hi | rfl
            · simp only [gj i hi, gt i hi]
              exact ⟨h.keepRow hf hrb (h.told i hi).1 (hty (h.told i hi).1 (by decide)) (by decide) _ _, (h.told i hi).2⟩
            · simp only [gj', gt']
              exact ⟨World.ownsRow_nil _ _ _ _, fun k hk => by cases hk⟩
          sl := by simp [hls]
          tl := by simp [hlt]
          gl := h.gl
          gb := fun i hi => by
            obtain ⟨h1, h2, h3, h4, h5, h6⟩ := h.gb i hi
            exact ⟨h.keepRow hf hrb h1 (hty h1 (by decide)) (by decide) _ _, h.keepRow hf hrb h2 (hty h2 (by decide)) (by decide) _ _, h.keepRow hf hrb h3 (hty h3 (by decide)) (by decide) _ _, h4, h5, h6⟩ }
theorem refSubmit_any (F : Nat → Prop) (w : World) (rb : Nat) (d : DeskM) (v : RV) (sv : Value) (l : List St) (h : RD F w rb d v) (hs : StepsV w sv l) (hn : d.jobs.length ≤ 1000000000) (hq : d.queue.length ≤ 1000000000) (hF : ∀ k, w.heap.size ≤ k → F k) :
    Calls Tryz.prog 58 #[ptrV rb, sv] w fun e w' => RStep F w rb (d.submit l).1 (.tuple #[natV (d.submit l).2.1, .int .i64 (d.submit l).2.2]) e w' := by
  obtain ⟨sa, sc, rfl, hs'⟩ := id hs
  have H : Hid (RD F w rb d v) := h
  have HS : Hid (StepsV w (.slice sa l.length sc) l) := hs
  have HF : Hid (∀ k, w.heap.size ≤ k → F k) := hF
  have HQ : Hid (d.queue.length ≤ 1000000000) := hq
  obtain ⟨N, hN⟩ : ∃ N, N = d.jobs.length := ⟨_, rfl⟩
  have HN : Hid (N = d.jobs.length) := hN
  rw [← hN] at hn
  obtain ⟨ja, jc, hj⟩ := owns_form h.jobs
  have HJ : Hid (v.jv = .slice ja N jc) := by rw [hN]; exact hj
  clear h hs hs' hF hN hj hq
  unfold ptrV
  go_enter Tryz.func58, Tryz.ntmps58
  go_wp2_with fail
  refine (refCheck_any _ l w HS.out).mono ?_
  rintro e W1 ⟨rfl, hb1⟩
  have HB1 : Hid (Below w.heap.size w W1) := hb1
  have H1 : Hid (RD F W1 rb d v) := H.out.below hb1
  have c1 : W1.cell? ⟨rb, 1, none⟩ = some (.int .i64 (d.c.queue : Int)) := by rw [blk_cell H1.out.blk]; rfl
  have c4 : W1.cell? ⟨rb, 4, none⟩ = some (.slice ja N jc) := by rw [blk_cell H1.out.blk, ← HJ.out]; rfl
  have c5 : W1.cell? ⟨rb, 5, none⟩ = some v.qv := by rw [blk_cell H1.out.blk]; rfl
  have hrb := blk_lt H1.out.blk
  clear hb1
  cases hjb : jobB l
  · have hc : checkN l = 1 := by simp [checkN, hjb]
    rw [hc]
    have HP : Hid (d.submit l = (d, 0, 1)) := submit_no hjb
    clear hjb hc
    go_wp2
    refine bodyPost_ret (v := .tuple #[.int .i64 0, .int .i64 1]) (by simp [results, Tryz.results58, go_sem]) rfl ?_
    rw [HP.out]
    exact ⟨rfl, v, H1.out, Fr.of_below HB1.out⟩
  · have hc : checkN l = 0 := by simp [checkN, hjb]
    rw [hc]
    have HJB : Hid (jobB l = true) := hjb
    clear hjb hc
    go_wp2
    go_loop [7, 8] (fun wt i => ∃ j : Nat, j ≤ N ∧ i = .int .i64 j ∧ wt = .int .i64 (wtN (d.jobs.take j) : Nat)) (fun _ i => N - (intOf i).toNat)
    case atStart => exact ⟨0, Nat.zero_le _, rfl, rfl⟩
    case round =>
      obtain ⟨j, hj, rfl, rfl⟩ := hrel
      have hwt := wtN_le d.jobs j
      by_cases hlt : j < N
      · have hjl : j < d.jobs.length := by rw [← HN.out]; exact hlt
        obtain ⟨g, cap, hv, hgl, hcell⟩ := owns_pos H1.out.jobs (by omega)
        rw [HJ.out] at hv
        injection hv with h1 h2 h3
        subst h1 h3
        have cj := (hcell j (by omega)).trans (H1.out.jsGet hjl)
        obtain ⟨_, k2⟩ := H1.out.jb j hjl
        have e1 : W1.cell? ⟨v.js.getD j 0, 1, none⟩ = some (.int .i64 (d.jobs.getD j jobM0).state) := by rw [blk_cell k2]; rfl
        have HSt : Hid (wtN (d.jobs.take (j + 1)) = wtN (d.jobs.take j) + if (d.jobs.getD j jobM0).state = 1 then 1 else 0) := wtN_take d.jobs j hjl
        generalize v.js.getD j 0 = jb at cj e1
        generalize (d.jobs.getD j jobM0).state = st at e1 HSt
        generalize wtN (d.jobs.take j) = wt at hwt HSt ⊢
        have m1 : (j : Int) < (N : Int) := by omega
        have hw : IntKind.i64.wrap ((wt : Int) + 1) = (wt : Int) + 1 := by rw [IntKind.wrap_i64]; omega
        unfold ptrV at cj
        clear k2 hcell h2
        by_cases hst : st = 1
        · subst hst
          go_wp2
          go_round
          case rel => exact ⟨j + 1, by omega, by go_num, by rw [HSt.out, if_pos rfl]; go_num⟩
          case measure => simp [intOf]; omega
        · go_wp2
          go_round
          case rel => exact ⟨j + 1, by omega, by go_num, by rw [HSt.out, if_neg hst, Nat.add_zero]⟩
          case measure => simp [intOf]; omega
      · obtain rfl : j = N := by omega
        have e : d.jobs.take j = d.jobs := by rw [HN.out]; exact List.take_length
        rw [e, ← waiting_eq] at hwt ⊢
        have HE : Hid (d.jobs.take j = d.jobs) := e
        clear e
        by_cases hfull : d.c.queue ≤ d.waiting
        · have m2 : (d.c.queue : Int) ≤ (d.waiting : Int) := by omega
          have HP : Hid (d.submit l = (d, 0, 5)) := submit_full HJB.out hfull
          go_wp2
          refine bodyPost_ret (v := .tuple #[.int .i64 0, .int .i64 5]) (by simp [results, Tryz.results58, go_sem]) rfl ?_
          rw [HP.out]
          exact ⟨rfl, v, H1.out, Fr.of_below HB1.out⟩
        · have m2 : ¬ ((d.c.queue : Int) ≤ (d.waiting : Int)) := by omega
          have HP : Hid (d.submit l = ({ d with jobs := d.jobs ++ [⟨l, 1, [], 0, 0, false⟩], queue := d.queue ++ [d.jobs.length + 1] }, d.jobs.length + 1, 0)) := submit_ok HJB.out hfull
          have hl32 : l.length ≤ 32 := (jobB_at HJB.out).1
          clear hfull hwt
          obtain ⟨L, hL⟩ : ∃ L, L = l.length := ⟨_, rfl⟩
          have HL : Hid (L = l.length) := hL
          rw [← hL] at hl32 ⊢
          clear hL
          obtain ⟨i0, hi0, hz0, hz1, hz2⟩ := info_parts Tryz.infoStep
          go_wp2_with (at_make; refine wpList_make_full _ rfl _ _ 35 rfl W1.heap.size 95 i0 _ 4 Tryz.underlying35 hi0 hz0 hz1 _ _ _ _ L rfl rfl (by omega) (by omega) ?b2 ?b3 (Nat.le_refl _) ?_)
          case b2 => omega
          case b3 => unfold maxLen; omega
          intro w2 hown2 hgrow2
          obtain ⟨cur, hrow, hcl⟩ := owns_row hown2
          have hb2 : Below W1.heap.size W1 w2 := (Below.refl _ _).grown hgrow2 (Nat.le_refl _) (fun k h => by cases h)
          have hpos : Hid (0 < L → ∃ ad, sa = some ad ∧ ∀ j v, (stCells l)[j]? = some v → w2.cell? (ad.add j) = some v) := fun h0 => by
            obtain ⟨ao, cap, he, hss⟩ := HS.out.below HB1.out
            injection he with he1
            subst he1
            rcases hss with rfl | ⟨b, off, rfl, hb, hss⟩
            · have := HL.out; simp at this; omega
            · exact ⟨_, rfl, (hss.below hb2 hb).cells⟩
          have HRow : Hid (w2.heap[W1.heap.size]? = some (.cells cur.toArray 95 (0, 0))) := hrow
          have hs12 := blk_lt hrow
          clear hown2 hgrow2 hrow c1 c4 c5
          go_wp2_with (refine wpList_copy_wide rfl (.tmp 48) (.tmp 49) 35 35 rfl 95 4 Tryz.underlying35 Tryz.sizeStep _ _ _ _ _ _ L rfl rfl (Nat.min_self L) W1.heap.size 0 cur 95 HRow.out (stCells l) (by rw [length_stCells, HL.out]) (fun h0 => ⟨rfl, hpos.out h0⟩) (by rw [length_stCells, hcl, ← HL.out]; omega) (stCells_oneCell l) W1.heap.size W1 hb2 (Nat.le_refl _) ?_)
          intro w3 hg3 hb3 hs3
          have HO3 : Hid (w3.ownsRow 0 95 4 (.slice (some ⟨W1.heap.size, 0, none⟩) L L) L (stCells l)) := by
            have e : splice cur 0 (stCells l) = stCells l := by
              have : cur.length ≤ (stCells l).length := by rw [length_stCells, hcl, HL.out]; omega
              simp [splice, List.drop_of_length_le this]
            have hlen : (stCells l).length = L * 4 := by rw [length_stCells, HL.out]
            refine ⟨hlen, Or.inr ⟨_, L, _, rfl, Nat.zero_le _, hg3.out, Nat.le_refl _, by unfold maxLen; omega, ?_, ?_⟩⟩
            · rw [e]; simpa using hlen
            · rw [e]; show List.take _ (stCells l) = _; rw [← hlen]; exact List.take_length
          have H3 : Hid (RD F w3 rb d v) := H1.out.below hb3
          have HB3 : Hid (Below w.heap.size w w3 ∧ w.heap.size ≤ W1.heap.size) := ⟨HB1.out.trans (hb3.mono HB1.out.size), HB1.out.size⟩
          have hz3 : w.heap.size ≤ w3.heap.size := HB3.out.1.size
          obtain ⟨qa, qc, hqv⟩ := owns_form H3.out.queue
          have HQV : Hid (v.qv = .slice qa d.queue.length qc) := hqv
          have d4 : w3.cell? ⟨rb, 4, none⟩ = some (.slice ja j jc) := by rw [blk_cell H3.out.blk, ← HJ.out]; rfl
          have d5 : w3.cell? ⟨rb, 5, none⟩ = some (.slice qa d.queue.length qc) := by rw [blk_cell H3.out.blk, ← hqv]; rfl
          have hrb3 := blk_lt H3.out.blk
          have HR3 : Hid (((w3.alloc (.cells #[.slice (some ⟨W1.heap.size, 0, none⟩) L L, .int .i64 1, .slice none 0 0, .int .i64 0, .int .i64 0, .bool false] 133)).alloc (.cells #[.pointer (some ⟨w3.heap.size, 0, none⟩)] 131)).ownsRow 0 131 1 (.slice ja j jc) j (v.js.map ptrV)) := by
            have := H3.out.jobs
            rw [HJ.out, ← HN.out] at this
            exact (this.alloc _).alloc _
          clear hg3 hb3 hs3 hqv hb2 hpos HRow hcl hs12
          obtain ⟨i1, hi1, hy0, hy1, hy2⟩ := info_parts Tryz.infoJp
          go_wp2_with (at_builtin; refine wpList_append_lies _ (by rfl) _ _ 61 (by rfl) 0 131 i1 _ 1 8 Tryz.underlying61 hi1 hy0 hy1 hy2 (by rfl) (by decide) (.slice ja j jc) j (v.js.map ptrV) (by rfl) HR3.out ⟨w3.heap.size + 1, 0, none⟩ 1 1 [.pointer (some ⟨w3.heap.size, 0, none⟩)] (by rfl) (by rfl) ?_ ?_ (by decide) ?_ ?_ ?_ _ (by rfl) ?_)
          · exact World.news_of_block (new1E _ _ _)
          · intro u hu; simp at hu; subst hu; rfl
          · unfold maxLen; omega
          · omega
          · exact Nat.zero_le _
          · intro g1 cap1 w4 hown4 hgrow4 hat4 hlt4
            have hF4 : Fr (fun k => v.jv.ownBlock = some k) w3 w4 := (((Fr.refl _ w3).alloc _).alloc _).grown hgrow4 (fun k hk _ => by rw [HJ.out]; exact hk)
            have hjrb : ¬ v.jv.ownBlock = some rb := owns_ne H3.out.jobs H3.out.blk (by decide)
            have hblk4 : w4.heap[w3.heap.size]? = some (.cells #[.slice (some ⟨W1.heap.size, 0, none⟩) L L, .int .i64 1, .slice none 0 0, .int .i64 0, .int .i64 0, .bool false] 133 (0, 0)) := by
              rw [hgrow4.block w3.heap.size (by simp; omega) (fun e => by have := (owns_lt H3.out.jobs (by rw [HJ.out]; exact e.symm)).2; omega)]
              exact new0E _ _ _
            have hsw : w4.ownsRow 0 95 4 (.slice (some ⟨W1.heap.size, 0, none⟩) L L) L (stCells l) := owns_fr HO3.out hF4 (fun k hk hr => own_types HO3.out H3.out.jobs (by decide) hk hr)
            have H5 : Hid (RD F (w4.setCell ⟨rb, 4, none⟩ (.slice (some ⟨g1, 0, none⟩) (j + 1) cap1)) rb { d with jobs := d.jobs ++ [⟨l, 1, [], 0, 0, false⟩] } { v with jv := .slice (some ⟨g1, 0, none⟩) (j + 1) cap1, js := v.js ++ [w3.heap.size], sv := v.sv ++ [.slice (some ⟨W1.heap.size, 0, none⟩) L L], tv := v.tv ++ [nilV] } ∧ Fr F w3 (w4.setCell ⟨rb, 4, none⟩ (.slice (some ⟨g1, 0, none⟩) (j + 1) cap1))) := by
              have := RD.addJob (w := w3) (g := g1) (cap := cap1) (jb := w3.heap.size) (sv := .slice (some ⟨W1.heap.size, 0, none⟩) L L) (l := l) H3.out (fun k hk => HF.out k (by omega)) (by rw [← HN.out]; exact hown4) hF4 (by rw [HJ.out]; rcases hat4 with h | h; exact Or.inl h; exact Or.inr (by omega)) (Nat.le_refl _) hblk4 (by rw [← HL.out]; exact hsw) (fun k hk => by injection hk with hk; have hk : W1.heap.size = k := hk; exact HF.out k (by have := HB3.out.2; omega))
              rw [← HN.out] at this
              exact this
            have e4 : w4.cell? ⟨rb, 4, none⟩ = some (.slice ja j jc) := (hF4.cell hrb3 hjrb).trans d4
            have e5 : w4.cell? ⟨rb, 5, none⟩ = some (.slice qa d.queue.length qc) := (hF4.cell hrb3 hjrb).trans d5
            have ef : ∀ i, w4.frozen? ⟨rb, i, none⟩ = false := fun i => (hF4.frozen hrb3 hjrb).trans (blk_free H3.out.blk)
            have hlq := HQ.out
            have HRQ : Hid (((w4.setCell ⟨rb, 4, none⟩ (.slice (some ⟨g1, 0, none⟩) (j + 1) cap1)).alloc (.cells #[.int .i64 ((j : Int) + 1)] 3)).ownsRow 0 3 1 (.slice qa d.queue.length qc) d.queue.length (d.queue.map natV)) := by
              have := H5.out.1.queue
              rw [show (Value.slice qa d.queue.length qc) = v.qv from HQV.out.symm]
              exact this.alloc _
            have hz4 := H5.out.2.size
            rw [World.size_setCell] at hz4
            clear hown4 hgrow4 hat4 hlt4 hF4 hblk4 hsw d4 d5
            obtain ⟨i2, hi2, hx0, hx1, hx2⟩ := info_parts Tryz.infoInt
            have hwr : IntKind.i64.wrap ((j : Int) + 1) = (j : Int) + 1 := by rw [IntKind.wrap_i64]; omega
            go_wp2_with (at_builtin; refine wpList_append_lies _ (by rfl) _ _ 55 (by rfl) 0 3 i2 _ 1 8 Tryz.underlying55 hi2 hx0 hx1 hx2 (by rfl) (by decide) (.slice qa d.queue.length qc) d.queue.length (d.queue.map natV) (by rfl) HRQ.out ⟨w4.heap.size, 0, none⟩ 1 1 [.int .i64 ((j : Int) + 1)] (by rfl) (by rfl) ?_ ?_ (by decide) ?_ ?_ ?_ _ (by rfl) ?_)
            · have := heap_alloc_new (w4.setCell ⟨rb, 4, none⟩ (.slice (some ⟨g1, 0, none⟩) (j + 1) cap1)) (.cells #[.int .i64 ((j : Int) + 1)] 3)
              rw [World.size_setCell] at this
              exact World.news_of_block this
            · intro u hu; simp at hu; subst hu; rfl
            · unfold maxLen; omega
            · omega
            · exact Nat.zero_le _
            · intro g2 cap2 w6 hown6 hgrow6 hat6 hlt6
              have hF6 : Fr (fun k => v.qv.ownBlock = some k) (w4.setCell ⟨rb, 4, none⟩ (.slice (some ⟨g1, 0, none⟩) (j + 1) cap1)) w6 := ((Fr.refl _ _).alloc _).grown hgrow6 (fun k hk _ => by rw [HQV.out]; exact hk)
              have hqrb : ¬ v.qv.ownBlock = some rb := owns_ne H5.out.1.queue H5.out.1.blk (by decide)
              have HX : Hid (RStep F w rb (d.submit l).1 (.tuple #[natV (d.submit l).2.1, .int .i64 (d.submit l).2.2]) (.returned (.tuple #[.int .i64 ((j : Int) + 1), .int .i64 0])) (w6.setCell ⟨rb, 5, none⟩ (.slice (some ⟨g2, 0, none⟩) (d.queue.length + 1) cap2))) := by
                obtain ⟨r1, r2⟩ := RD.pushQ (m := j + 1) (g := g2) (cap := cap2) H5.out.1 (fun k hk => HF.out k (by rw [World.size_setCell] at hk; omega)) (by have := hown6; exact this) hF6 (by rw [World.size_setCell]; show v.qv.ownBlock = _ ∨ _; rw [HQV.out]; rcases hat6 with h | h; exact Or.inl h; exact Or.inr (by omega))
                rw [HP.out]
                have r3 : Fr F w (w6.setCell ⟨rb, 5, none⟩ (.slice (some ⟨g2, 0, none⟩) (d.queue.length + 1) cap2)) := (Fr.of_below HB3.out.1 (S := F)).trans (H5.out.2.trans r2 (fun _ _ h => h)) (fun _ _ h => h)
                have hjj := HN.out
                have r4 : natV (d.jobs.length + 1) = .int .i64 ((j : Int) + 1) := by rw [← hjj]; simp [natV]
                rw [hjj] at r1
                exact ⟨by show _ = Ending.returned (.tuple #[natV (d.jobs.length + 1), .int .i64 0]); rw [r4], _, r1, r3⟩
              have hrb5 : rb < (w4.setCell ⟨rb, 4, none⟩ (.slice (some ⟨g1, 0, none⟩) (j + 1) cap1)).heap.size := blk_lt H5.out.1.blk
              have f5 : w6.cell? ⟨rb, 5, none⟩ = some (.slice qa d.queue.length qc) := by
                rw [hF6.cell hrb5 hqrb, World.cell?_setCell_other _ _ _ _ (by intro e; injection e with _ e; omega)]; exact e5
              have ff5 : w6.frozen? ⟨rb, 5, none⟩ = false := (hF6.frozen hrb5 hqrb).trans (blk_free H5.out.1.blk)
              clear hown6 hgrow6 hat6 hlt6 hF6
              go_wp2
              refine bodyPost_ret (v := .tuple #[.int .i64 ((j : Int) + 1), .int .i64 0]) (by simp [results, Tryz.results58, go_sem]) rfl ?_
              exact HX.out
end Go.Proofs.YtlbmcdoldnajoaaGreat
