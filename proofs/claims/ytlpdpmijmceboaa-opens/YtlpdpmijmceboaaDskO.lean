/- The program's own desk in memory, as far as New, Poll and Map reach. -/
import Derived.Test.YtlpdpmijmceboaaRefD
namespace Go.Proofs.Ytlpdpmijmceboaa
open Go.RowKit

/-- a job that was handed in, in cells -/
def taskC (i : Nat) (j : JobM) (s t : Value) : Array Value := #[natV (i + 1), .int .i64 j.state, natV j.tries, s, t]

/-- the lists of the program's desk -/
structure PV where
  jv : Value
  qv : Value
  wv : Value
  ts : List Nat
  sv : List Value
  tv : List Value

def confC (c : ConfM) : List Value := [natV c.workers, natV c.queue, natV c.fuel, natV c.patience]

structure PD (F : Nat → Prop) (w : World) (b : Nat) (d : DeskM) (v : PV) : Prop where
  inF : F b
  blk : w.heap[b]? = some (.cells (confC d.c ++ mapCells (mapF d.goods) ++ [v.jv, v.qv, v.wv]).toArray 128 (0, 0))
  jobs : w.ownsRow 0 136 1 v.jv d.jobs.length (v.ts.map ptrV)
  jF : ∀ k, v.jv.ownBlock = some k → F k
  tb : ∀ i, i < d.jobs.length → F (v.ts.getD i 0) ∧ w.heap[v.ts.getD i 0]? = some (.cells (taskC i (d.jobs.getD i jobM0) (v.sv.getD i nilV) (v.tv.getD i nilV)) 139 (0, 0))
  told : ∀ i, i < d.jobs.length → w.ownsRow 0 3 1 (v.tv.getD i nilV) (d.jobs.getD i jobM0).told.length ((d.jobs.getD i jobM0).told.map (Value.int .i64)) ∧ ∀ k, (v.tv.getD i nilV).ownBlock = some k → F k

theorem PD.fr {F R : Nat → Prop} {w w' : World} {b : Nat} {d : DeskM} {v : PV} (h : PD F w b d v) (hf : Fr R w w') (hR : ∀ k, F k → ¬ R k) : PD F w' b d v where
  inF := h.inF
  blk := hf.blk h.blk (hR _ h.inF)
  jobs := owns_fr h.jobs hf (fun k hk => hR k (h.jF k hk))
  jF := h.jF
  tb := fun i hi => ⟨(h.tb i hi).1, hf.blk (h.tb i hi).2 (hR _ (h.tb i hi).1)⟩
  told := fun i hi => ⟨owns_fr (h.told i hi).1 hf (fun k hk => hR k ((h.told i hi).2 k hk)), (h.told i hi).2⟩
theorem PD.mono {F F' : Nat → Prop} {w : World} {b : Nat} {d : DeskM} {v : PV} (h : PD F w b d v) (hF : ∀ k, k < w.heap.size → F k → F' k) : PD F' w b d v :=
  { h with
    inF := hF _ (blk_lt h.blk) h.inF
    jF := fun k hk => hF k (owns_lt h.jobs hk).2 (h.jF k hk)
    tb := fun i hi => ⟨hF _ (blk_lt (h.tb i hi).2) (h.tb i hi).1, (h.tb i hi).2⟩
    told := fun i hi => ⟨(h.told i hi).1, fun k hk => hF k (owns_lt (h.told i hi).1 hk).2 ((h.told i hi).2 k hk)⟩ }
theorem PD.jsGet {F : Nat → Prop} {w : World} {b : Nat} {d : DeskM} {v : PV} (h : PD F w b d v) {i : Nat} (hi : i < d.jobs.length) : (v.ts.map ptrV)[i]? = some (ptrV (v.ts.getD i 0)) := by
  have hl : v.ts.length = d.jobs.length := by simpa using h.jobs.1
  simp [List.getD, hl, hi]
theorem PD.mapAt {F : Nat → Prop} {w : World} {b : Nat} {d : DeskM} {v : PV} (h : PD F w b d v) : MapAt w b 4 (mapF d.goods) := blk_rangeAt h.blk rfl
theorem PD.cJobs {F : Nat → Prop} {w : World} {b : Nat} {d : DeskM} {v : PV} (h : PD F w b d v) : w.cell? ⟨b, 36, none⟩ = some v.jv := by
  rw [blk_cell h.blk, List.getElem?_toArray, List.getElem?_append_right (by simp [confC, length_mapCells])]
  simp [confC, length_mapCells]

set_option maxRecDepth 100000 in
set_option maxHeartbeats 400000 in
theorem isConfig_any (a b c d : Int) (w : World) : Calls Try.prog 79 #[.agg #[.int .i64 a, .int .i64 b, .int .i64 c, .int .i64 d]] w fun e w' => e = .returned (.bool (confB a b c d)) ∧ Below w.heap.size w w' := by
  go_enter Try.func79, Try.ntmps79
  go_wp2
  all_goals
    go_ret
    refine ⟨?_, (Below.refl _ _).alloc (Nat.le_refl _) _⟩
    congr 2
    simp [confB, *]
    try omega

def wkZ : Array Value := #[(.pointer none : Value), .int .i64 0, .int .i64 0, .int .i64 0, .int .i64 0, .int .i64 0, .int .i64 0, .int .i64 0, .bool false, .bool false, .bool false, .bool false, .bool false, .bool false, .bool false, .bool false, .bool false, .bool false, .bool false, .bool false, .bool false, .bool false, .bool false, .bool false, .int .i64 0, .int .i64 0, .int .i64 0, .int .i64 0, .int .i64 0, .int .i64 0, .int .i64 0, .int .i64 0, .int .i64 0, .int .i64 0, .int .i64 0, .int .i64 0, .int .i64 0, .int .i64 0, .int .i64 0, .int .i64 0, .bool false, .bool false, .bool false, .bool false, .bool false, .bool false, .bool false, .bool false, .bool false, .bool false, .bool false, .bool false, .bool false, .bool false, .bool false, .bool false, .slice none 0 0]
theorem Try.infoWk : (Try.prog.info? 157).map (fun i => (i.zero, i.size, i.bytes)) = some (some (.agg wkZ), 57, 248) := by kernel_rfl

/-- what New hands back -/
def PNew (c : ConfM) (w : World) (e : Ending) (w' : World) : Prop := ∃ b v, e = .returned (.tuple #[ptrV b, .int .i64 0]) ∧ PD (fun k => w.heap.size ≤ k) w' b (desk0 c) v ∧ Below w.heap.size w w'

set_option maxRecDepth 100000 in
set_option maxHeartbeats 400000 in
theorem new_ok (cf : ConfM) (w : World) (hc : confB cf.workers cf.queue cf.fuel cf.patience = true) :
    Calls Try.prog 51 #[.agg #[.int .i64 (cf.workers : Int), .int .i64 (cf.queue : Int), .int .i64 (cf.fuel : Int), .int .i64 (cf.patience : Int)]] w fun e w' => PNew cf w e w' := by
  obtain ⟨n, b, c, d⟩ := cf
  simp only at hc ⊢
  go_enter Try.func51, Try.ntmps51
  go_wp2_with fail
  refine (isConfig_any n b c d _).mono ?_
  rintro e W1 ⟨rfl, hb⟩
  rw [hc]
  have hobj : W1.heap[w.heap.size]? = some (.cells #[.int .i64 (n : Int), .int .i64 (b : Int), .int .i64 (c : Int), .int .i64 (d : Int)] 34 (0, 0)) := (hb.block _ (by simp)).trans (heap_alloc_new w _)
  have o0 : W1.cell? ⟨w.heap.size, 0, none⟩ = some (.int .i64 (n : Int)) := by rw [blk_cell hobj]; rfl
  have o1 : W1.cell? ⟨w.heap.size, 1, none⟩ = some (.int .i64 (b : Int)) := by rw [blk_cell hobj]; rfl
  have o2 : W1.cell? ⟨w.heap.size, 2, none⟩ = some (.int .i64 (c : Int)) := by rw [blk_cell hobj]; rfl
  have o3 : W1.cell? ⟨w.heap.size, 3, none⟩ = some (.int .i64 (d : Int)) := by rw [blk_cell hobj]; rfl
  have hl := blk_lt hobj
  have hn : n ≤ 1000 := by simp [confB] at hc; omega
  have hmk := make_any Try.underlying126 Try.infoWk n hn (by decide)
  generalize madeCells (Value.agg wkZ).cells (n * 57) = mc at hmk
  have HB : Hid (Below w.heap.size w W1) := ((Below.refl _ _).alloc (Nat.le_refl _) _).trans (hb.mono (by simp))
  clear hobj hb hc
  go_wp2
  go_region
  go_wp2
  refine bodyPost_ret (v := .tuple #[ptrV (W1.heap.size + 1), .int .i64 0]) (by simp [results, Try.results51, go_sem, ptrV]) rfl ?_
  refine ⟨W1.heap.size + 1, ⟨nilV, nilV, .slice (some ⟨W1.heap.size, 0, none⟩) n n, [], [], []⟩, rfl, ?_, ((HB.out.alloc (Nat.le_of_lt hl) _).alloc (by simp; omega) _).drew⟩
  exact { inF := by show w.heap.size ≤ _; omega
          blk := (new1E W1 (.cells mc 157) _)
          jobs := World.ownsRow_nil _ _ _ _
          jF := fun k hk => by cases hk
          tb := fun i hi => absurd hi (Nat.not_lt_zero _)
          told := fun i hi => absurd hi (Nat.not_lt_zero _) }

set_option maxRecDepth 100000 in
set_option maxHeartbeats 400000 in
theorem new_bad (a b c d : Int) (w : World) (hc : confB a b c d = false) :
    Calls Try.prog 51 #[.agg #[.int .i64 a, .int .i64 b, .int .i64 c, .int .i64 d]] w fun e w' => e = .returned (.tuple #[.pointer none, .int .i64 4]) ∧ Below w.heap.size w w' := by
  go_enter Try.func51, Try.ntmps51
  go_wp2_with fail
  refine (isConfig_any a b c d _).mono ?_
  rintro e W1 ⟨rfl, hb⟩
  rw [hc]
  have HB : Hid (Below w.heap.size w W1) := ((Below.refl _ _).alloc (Nat.le_refl _) _).trans (hb.mono (by simp))
  clear hb
  go_wp2
  exact bodyPost_ret (v := .tuple #[.pointer none, .int .i64 4]) (by simp [results, Try.results51, go_sem]) rfl ⟨rfl, HB.out⟩

set_option maxRecDepth 100000 in
set_option maxHeartbeats 400000 in
theorem map_any (F : Nat → Prop) (w : World) (b : Nat) (d : DeskM) (v : PV) (h : PD F w b d v) :
    Calls Try.prog 33 #[ptrV b] w fun e w' => Aftered (mapF d.goods) w e w' := by
  have H : Hid (PD F w b d v) := h
  clear h
  unfold ptrV
  go_enter Try.func33, Try.ntmps33
  go_wp2_with fail
  refine (pairsE_any b 4 (mapF d.goods) w (blk_lt H.out.blk) H.out.mapAt).mono ?_
  rintro e W2 ⟨av, rfl, h1, h2⟩
  have HX : Hid (W2.ownsRow w.heap.size 45 2 av (listOf (mapF d.goods)).length (prCells (listOf (mapF d.goods))) ∧ Below w.heap.size w W2) := ⟨h1, h2⟩
  clear h1 h2
  go_wp2
  go_ret
  exact ⟨_, rfl, HX.out.1, HX.out.2⟩

set_option maxRecDepth 100000 in
set_option maxHeartbeats 400000 in
theorem find_no (F : Nat → Prop) (w : World) (b : Nat) (d : DeskM) (v : PV) (n : Int) (h : PD F w b d v) (hn : ¬ (1 ≤ n ∧ n ≤ d.jobs.length)) :
    Calls Try.prog 71 #[ptrV b, .int .i64 n] w fun e w' => e = .returned (.pointer none) ∧ w' = w := by
  obtain ⟨ja, jc, hj⟩ := owns_form h.jobs
  have c := h.cJobs
  rw [hj] at c
  generalize d.jobs.length = N at c hn
  have hin' : n < 1 ∨ (¬ n < 1 ∧ (N : Int) < n) := by omega
  unfold ptrV
  clear h hn hj
  rcases hin' with q | ⟨q, q2⟩
  all_goals
    go_enter Try.func71, Try.ntmps71
    go_wp2
    go_ret
    exact ⟨rfl, rfl⟩

set_option maxRecDepth 100000 in
set_option maxHeartbeats 400000 in
theorem find_yes (F : Nat → Prop) (w : World) (b : Nat) (d : DeskM) (v : PV) (n : Int) (i : Nat) (h : PD F w b d v) (hl : d.jobs.length ≤ 1000000000000) (hi : i < d.jobs.length) (hni : n = (i : Int) + 1) :
    Calls Try.prog 71 #[ptrV b, .int .i64 n] w fun e w' => e = .returned (ptrV (v.ts.getD i 0)) ∧ w' = w := by
  have c := h.cJobs
  obtain ⟨g, cap, hv, hgl, hcell⟩ := owns_pos h.jobs (by omega)
  have cj := (hcell i (by omega)).trans (h.jsGet hi)
  rw [hv] at c
  generalize d.jobs.length = N at c hl hi
  have hw : IntKind.i64.wrap (n - 1) = (i : Int) := by rw [IntKind.wrap_i64]; omega
  have m0 : ¬ n < 1 := by omega
  have m1 : ¬ ((N : Int) < n) := by omega
  have m2 : (i : Int) < (N : Int) := by omega
  generalize v.ts.getD i 0 = tb at *
  unfold ptrV at *
  clear h hcell hv hi hni
  go_enter Try.func71, Try.ntmps71
  go_wp2
  go_ret
  exact ⟨rfl, rfl⟩

/-- what Poll hands back: a list of its own -/
def PPolled (d : DeskM) (n : Int) (w : World) (e : Ending) (w' : World) : Prop :=
  ∃ tv, e = .returned (.tuple #[.agg #[.int .i64 (d.poll n).1, tv, .int .i64 (d.poll n).2.2.1], .int .i64 (d.poll n).2.2.2]) ∧ w'.ownsRow w.heap.size 3 1 tv (d.poll n).2.1.length ((d.poll n).2.1.map (Value.int .i64)) ∧ Below w.heap.size w w'

set_option maxRecDepth 100000 in
set_option maxHeartbeats 400000 in
theorem poll_no_any (F : Nat → Prop) (w : World) (b : Nat) (d : DeskM) (v : PV) (n : Int) (h : PD F w b d v) (hn : ¬ (1 ≤ n ∧ n ≤ d.jobs.length)) :
    Calls Try.prog 37 #[ptrV b, .int .i64 n] w fun e w' => PPolled d n w e w' := by
  have HP : Hid (d.poll n = (0, [], 0, 8)) := poll_no hn
  have H : Hid (PD F w b d v) := h
  unfold ptrV
  go_enter Try.func37, Try.ntmps37
  go_wp2_with fail
  refine (find_no F _ b d v n (H.out.fr (R := fun _ => False) (Fr.of_below ((Below.refl _ _).alloc (Nat.le_refl _) _)) (fun _ _ hs => hs)) hn).mono ?_
  rintro e W2 ⟨rfl, rfl⟩
  clear h hn
  go_wp2
  refine bodyPost_ret (v := .tuple #[.agg #[.int .i64 0, .slice none 0 0, .int .i64 0], .int .i64 8]) (by simp [results, Try.results37, go_sem]) rfl ?_
  exact ⟨.slice none 0 0, by rw [HP.out], by rw [HP.out]; exact World.ownsRow_nil _ _ _ _, (Below.refl _ _).alloc (Nat.le_refl _) _⟩

set_option maxRecDepth 100000 in
set_option maxHeartbeats 400000 in
theorem poll_yes_any (F : Nat → Prop) (w : World) (b : Nat) (d : DeskM) (v : PV) (n : Int) (i : Nat) (h : PD F w b d v) (hl : d.jobs.length ≤ 1000000000000) (hi : i < d.jobs.length) (hni : n = (i : Int) + 1) (htl : (d.jobs.getD i jobM0).told.length ≤ 1000) :
    Calls Try.prog 37 #[ptrV b, .int .i64 n] w fun e w' => PPolled d n w e w' := by
  have HP : Hid (d.poll n = ((d.jobs.getD i jobM0).state, (d.jobs.getD i jobM0).told, ((d.jobs.getD i jobM0).tries : Int), 0)) := by rw [hni]; exact poll_yes hi
  have H : Hid (PD F w b d v) := h
  have HI : Hid (n = (i : Int) + 1 ∧ i < d.jobs.length ∧ d.jobs.length ≤ 1000000000000) := ⟨hni, hi, hl⟩
  obtain ⟨k1, k2⟩ := h.tb i hi
  obtain ⟨t1, t2⟩ := h.told i hi
  obtain ⟨tb, htb⟩ : ∃ tb, tb = v.ts.getD i 0 := ⟨_, rfl⟩
  have HTB : Hid (v.ts.getD i 0 = tb) := htb.symm
  rw [← htb] at k2
  clear htb
  generalize v.tv.getD i nilV = tv at k2 t1
  generalize v.sv.getD i nilV = sv at k2
  generalize d.jobs.getD i jobM0 = jm at k2 t1 htl HP
  have hbl := blk_lt k2
  have e1 : w.cell? ⟨tb, 1, none⟩ = some (.int .i64 jm.state) := by rw [blk_cell k2]; rfl
  have e2 : w.cell? ⟨tb, 2, none⟩ = some (.int .i64 (jm.tries : Int)) := by rw [blk_cell k2]; rfl
  have e4 : w.cell? ⟨tb, 4, none⟩ = some tv := by rw [blk_cell k2]; rfl
  obtain ⟨ta, tc, rfl⟩ := owns_form t1
  have HO : Hid (w.ownsRow 0 3 1 (.slice ta jm.told.length tc) jm.told.length (jm.told.map (Value.int .i64))) := t1
  unfold ptrV
  clear h hl hni hi k1 k2 t2 t1
  obtain ⟨i0, hi0, hz0, hz1, hz2⟩ := info_parts Try.infoInt
  by_cases hn : jm.told.length = 0
  · have hx : jm.told = [] := List.eq_nil_of_length_eq_zero hn
    have HX : Hid (d.poll n = (jm.state, [], (jm.tries : Int), 0)) := by rw [HP.out, hx]; rfl
    have hao : ta = none → tc = 0 := fun e => by
      rcases HO.out.2 with ⟨h, _⟩ | ⟨g, cap, cur, h, _⟩
      · injection h with _ _ h
      · subst e; injection h with h; cases h
    rw [hn] at e4
    clear hx HO HP
    cases ta with
    | none =>
      obtain rfl := hao rfl
      go_enter Try.func37, Try.ntmps37
      go_wp2_with fail
      refine (find_yes F _ b d v n i (H.out.fr (R := fun _ => False) (Fr.of_below ((Below.refl _ _).alloc (Nat.le_refl _) _)) (fun _ _ hs => hs)) HI.out.2.2 HI.out.2.1 HI.out.1).mono ?_
      rintro e W2 ⟨rfl, rfl⟩
      rw [HTB.out]
      unfold ptrV
      go_wp2_with (at_builtin; refine wpList_append_own_none (by rfl) (.tmp 14) (.tmp 18) 40 (by rfl) (w.heap.size + 1) 3 i0 1 Try.underlying40 hi0 _ _ _ (by rfl) (by have := owns_emptyI (w.alloc (.cells #[.int .i64 0, .slice none 0 0, .int .i64 0] 47)); simpa using this) (by rfl) ?_)
      go_region
      all_goals
        go_wp2
        refine bodyPost_ret (v := .tuple #[.agg #[.int .i64 jm.state, .slice (some ⟨w.heap.size + 1, 0, none⟩) 0 0, .int .i64 (jm.tries : Int)], .int .i64 0]) (by simp [results, Try.results37, go_sem]) rfl ?_
        refine ⟨.slice (some ⟨w.heap.size + 1, 0, none⟩) 0 0, by rw [HX.out], ?_, (((Below.refl _ _).alloc (Nat.le_refl _) _).alloc (by simp) _).drew⟩
        rw [HX.out]
        refine owns_keep (w := (w.alloc _).alloc _) (owns_base (base := w.heap.size + 1) ?_ (Nat.le_succ _)) (Below.refl _ _).drew
        have := owns_emptyI (w.alloc (.cells #[.int .i64 jm.state, .slice (some ⟨w.heap.size + 1, 0, none⟩) 0 0, .int .i64 (jm.tries : Int)] 47))
        simpa using this
    | some ad =>
      go_enter Try.func37, Try.ntmps37
      go_wp2_with fail
      refine (find_yes F _ b d v n i (H.out.fr (R := fun _ => False) (Fr.of_below ((Below.refl _ _).alloc (Nat.le_refl _) _)) (fun _ _ hs => hs)) HI.out.2.2 HI.out.2.1 HI.out.1).mono ?_
      rintro e W2 ⟨rfl, rfl⟩
      rw [HTB.out]
      unfold ptrV
      go_wp2
      go_region
      all_goals
        go_wp2
        refine bodyPost_ret (v := .tuple #[.agg #[.int .i64 jm.state, .slice (some ⟨w.heap.size + 1, 0, none⟩) 0 0, .int .i64 (jm.tries : Int)], .int .i64 0]) (by simp [results, Try.results37, go_sem]) rfl ?_
        refine ⟨.slice (some ⟨w.heap.size + 1, 0, none⟩) 0 0, by rw [HX.out], ?_, (((Below.refl _ _).alloc (Nat.le_refl _) _).alloc (by simp) _).drew⟩
        rw [HX.out]
        refine owns_keep (w := (w.alloc _).alloc _) (owns_base (base := w.heap.size + 1) ?_ (Nat.le_succ _)) (Below.refl _ _).drew
        have := owns_emptyI (w.alloc (.cells #[.int .i64 jm.state, .slice (some ⟨w.heap.size + 1, 0, none⟩) 0 0, .int .i64 (jm.tries : Int)] 47))
        simpa using this
  · obtain ⟨g, cap, hv, hgl, hcell⟩ := owns_pos HO.out (by omega)
    injection hv with h1 h2 h3
    subst h1 h3
    obtain ⟨N, hN⟩ : ∃ N, N = jm.told.length := ⟨_, rfl⟩
    have HN : Hid (N = jm.told.length) := hN
    rw [← hN] at e4 hn htl
    have HC : Hid (∀ j u, (jm.told.map (Value.int .i64))[j]? = some u → w.cell? ⟨g, j, none⟩ = some u) := fun j u hj => by
      have hlt : j < jm.told.length := by simpa using (List.getElem?_eq_some_iff.1 hj).1
      rw [hcell j (by omega)]; exact hj
    have HE : Hid (((w.alloc (.cells #[.int .i64 0, .slice none 0 0, .int .i64 0] 47)).alloc (.cells #[] 3)).ownsRow (w.heap.size + 1) 3 1 (.slice (some ⟨w.heap.size + 1, 0, none⟩) 0 0) 0 []) := by
      have := owns_emptyI (w.alloc (.cells #[.int .i64 0, .slice none 0 0, .int .i64 0] 47))
      rw [World.size_alloc] at this
      exact this
    clear hN hcell h2 HO
    go_enter Try.func37, Try.ntmps37
    go_wp2_with fail
    refine (find_yes F _ b d v n i (H.out.fr (R := fun _ => False) (Fr.of_below ((Below.refl _ _).alloc (Nat.le_refl _) _)) (fun _ _ hs => hs)) HI.out.2.2 HI.out.2.1 HI.out.1).mono ?_
    rintro e W2 ⟨rfl, rfl⟩
    rw [HTB.out]
    unfold ptrV
    go_wp2_with (at_builtin; refine wpList_append_lies _ (by rfl) (.tmp 14) (.tmp 18) 40 (by rfl) (w.heap.size + 1) 3 i0 _ 1 8 Try.underlying40 hi0 hz0 hz1 hz2 (by rfl) (by decide) (.slice (some ⟨w.heap.size + 1, 0, none⟩) 0 0) 0 [] (by rfl) HE.out ⟨g, 0, none⟩ N tc (jm.told.map (Value.int .i64)) (by rfl) ?_ ?_ ?_ (by omega) ?_ ?_ ?_ _ (by rfl) ?_)
    · rw [HN.out]; simp
    · intro j u hj
      have := HC.out j u hj
      rw [Addr.add_mid, Nat.zero_add]
      exact (((Below.refl w.heap.size w).alloc (Nat.le_refl _) _).alloc (by simp) _).cell (p := ⟨g, j, none⟩) hgl |>.trans this
    · intro u hu; obtain ⟨k, _, rfl⟩ := List.mem_map.1 hu; rfl
    · unfold maxLen; omega
    · omega
    · simp
    · intro g1 cap1 w2 hown2 hgrow2 hat hlt2
      have hbox : w2.heap[w.heap.size]? = some (.cells #[.int .i64 0, .slice none 0 0, .int .i64 0] 47 (0, 0)) := by
        rw [hgrow2.block w.heap.size (by simp; omega) (by simp [Value.ownBlock])]
        exact new0E _ _ _
      have hbel : Below w.heap.size w w2 := (((Below.refl w.heap.size w).alloc (Nat.le_refl _) _).alloc (by simp) _).grown hgrow2 (by simp; omega) (fun k hk => by injection hk with hk; have hk : w.heap.size + 1 = k := hk; omega)
      obtain ⟨b0, b1, b2, bf⟩ : w2.cell? ⟨w.heap.size, 0, none⟩ = some (.int .i64 0) ∧ w2.cell? ⟨w.heap.size, 1, none⟩ = some (.slice none 0 0) ∧ w2.cell? ⟨w.heap.size, 2, none⟩ = some (.int .i64 0) ∧ (∀ i, w2.frozen? ⟨w.heap.size, i, none⟩ = false) := ⟨by rw [blk_cell hbox]; rfl, by rw [blk_cell hbox]; rfl, by rw [blk_cell hbox]; rfl, fun _ => blk_free hbox⟩
      have f1 := (hbel.cell (p := ⟨tb, 1, none⟩) hbl).trans e1
      have f2 := (hbel.cell (p := ⟨tb, 2, none⟩) hbl).trans e2
      have HT : Hid (w2.ownsRow (w.heap.size + 1) 3 1 (.slice (some ⟨g1, 0, none⟩) N cap1) N (jm.told.map (Value.int .i64)) ∧ Below w.heap.size w w2) := ⟨by simpa using hown2, hbel⟩
      clear hown2 hgrow2 hat hlt2 hbox hbel e1 e2 e4
      have ne : ¬ tb = w.heap.size := by omega
      try simp only [Nat.zero_add]
      go_wp2
      go_region
      all_goals
        go_wp2
        refine bodyPost_ret (v := .tuple #[.agg #[.int .i64 jm.state, .slice (some ⟨g1, 0, none⟩) N cap1, .int .i64 (jm.tries : Int)], .int .i64 0]) (by simp [results, Try.results37, go_sem, b0, b1, b2]) rfl ?_
        have hng : (Value.slice (some ⟨g1, 0, none⟩) N cap1).ownBlock ≠ some w.heap.size := fun e => by have := owns_ge HT.out.1 e; omega
        refine ⟨.slice (some ⟨g1, 0, none⟩) N cap1, by rw [HP.out], ?_, ((HT.out.2.setCell (p := ⟨w.heap.size, _, none⟩) (Nat.le_refl _) _).setCell (p := ⟨w.heap.size, _, none⟩) (Nat.le_refl _) _).setCell (p := ⟨w.heap.size, _, none⟩) (Nat.le_refl _) _ |>.drew⟩
        rw [HP.out]
        refine owns_keep (owns_set (owns_set (owns_set (owns_base (base := w.heap.size + 1) ?_ (Nat.le_succ _)) hng _ _) hng _ _) hng _ _) (Below.refl _ _).drew
        simp only
        rw [← HN.out]
        exact HT.out.1

theorem poll_any (F : Nat → Prop) (w : World) (b : Nat) (d : DeskM) (v : PV) (n : Int) (h : PD F w b d v) (hl : d.jobs.length ≤ 1000000000000) (ht : ∀ i, i < d.jobs.length → (d.jobs.getD i jobM0).told.length ≤ 1000) :
    Calls Try.prog 37 #[ptrV b, .int .i64 n] w fun e w' => PPolled d n w e w' := by
  by_cases hin : 1 ≤ n ∧ n ≤ d.jobs.length
  · exact poll_yes_any F w b d v n (n - 1).toNat h hl (by omega) (by omega) (ht _ (by omega))
  · exact poll_no_any F w b d v n h hin

end Go.Proofs.Ytlpdpmijmceboaa
