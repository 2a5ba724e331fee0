import Derived.Test.YtlbmcdoldnajoaaGreatPHist
import Derived.Test.YtlbmcdoldnajoaaGreatLawD
set_option maxRecDepth 100000
set_option maxHeartbeats 400000
namespace Go.Proofs.YtlbmcdoldnajoaaGreat
open Go.RowKit
theorem isConfig_any (a b c d : Int) (w : World) : Calls Tryz.prog 21 #[.agg #[.int .i64 a, .int .i64 b, .int .i64 c, .int .i64 d]] w fun e w' => e = .returned (.bool (confB a b c d)) ∧ Below w.heap.size w w' := by
  go_enter Tryz.func21, Tryz.ntmps21
  go_wp2
  all_goals
    go_ret
    refine ⟨?_, (Below.refl _ _).alloc (Nat.le_refl _) _⟩
    congr 2
    simp [confB, *]
    try omega
def wkZ : List Value := wkC [] wk0 nilV
theorem wkZ_len : wkZ.length = 74 := by kernel_rfl
theorem Tryz.infoWk : (Tryz.prog.info? 140).map (fun i => (i.zero, i.size, i.bytes)) = some (some (.agg wkZ.toArray), 74, 272) := by kernel_rfl
theorem wkOf0 (d : DeskM) : wkOf d att0 = wk0 := rfl
theorem prog0 (c : ConfM) : progOf (desk0 c) = ⟨c, fun _ => -1, 0, [], [], [], [], List.replicate c.workers wk0⟩ := by
  have h1 : (List.replicate c.workers att0).map (wkOf (desk0 c)) = List.replicate c.workers wk0 := by rw [List.map_replicate, wkOf0]
  have h2 : runU (desk0 c) = [] := by
    unfold runU
    rw [List.filter_eq_nil_iff.2 (fun a ha => by rw [List.eq_of_mem_replicate (show a ∈ List.replicate c.workers att0 from ha)]; simp [att0])]
    rfl
  unfold progOf
  rw [h2]
  simp only [desk0] at h1 ⊢
  rw [h1]
  rfl
theorem wk_rep (n : Nat) : wkCells [] (List.replicate n wk0) (List.replicate n nilV) = (List.replicate n wkZ).flatten := by
  unfold wkCells
  congr 1
  apply List.ext_getElem?
  intro i
  simp [List.getElem?_replicate]
  by_cases h : i < n
  · simp [h, wkZ]
  · simp [h]
def PNew (c : ConfM) (w : World) (e : Ending) (w' : World) : Prop := ∃ o b v, e = .returned (.tuple #[ptrV b, .int .i64 0]) ∧ PD o w' b (progOf (desk0 c)) v ∧ (∀ k, o k ≠ none → w.heap.size ≤ k) ∧ Below w.heap.size w w'
theorem new_ok (cf : ConfM) (w : World) (hc : confB cf.workers cf.queue cf.fuel cf.patience = true) :
    Calls Tryz.prog 11 #[.agg #[.int .i64 (cf.workers : Int), .int .i64 (cf.queue : Int), .int .i64 (cf.fuel : Int), .int .i64 (cf.patience : Int)]] w fun e w' => PNew cf w e w' := by
  obtain ⟨n, b, c, d⟩ := cf
  simp only at hc ⊢
  go_enter Tryz.func11, Tryz.ntmps11
  go_wp2_with fail
  refine (isConfig_any n b c d _).mono ?_
  rintro e W1 ⟨rfl, hb⟩
  rw [hc]
  have hobj : W1.heap[w.heap.size]? = some (.cells #[.int .i64 (n : Int), .int .i64 (b : Int), .int .i64 (c : Int), .int .i64 (d : Int)] 32 (0, 0)) := (hb.block _ (by simp)).trans (heap_alloc_new w _)
  have o0 : W1.cell? ⟨w.heap.size, 0, none⟩ = some (.int .i64 (n : Int)) := by rw [blk_cell hobj]; rfl
  have o1 : W1.cell? ⟨w.heap.size, 1, none⟩ = some (.int .i64 (b : Int)) := by rw [blk_cell hobj]; rfl
  have o2 : W1.cell? ⟨w.heap.size, 2, none⟩ = some (.int .i64 (c : Int)) := by rw [blk_cell hobj]; rfl
  have o3 : W1.cell? ⟨w.heap.size, 3, none⟩ = some (.int .i64 (d : Int)) := by rw [blk_cell hobj]; rfl
  have hl := blk_lt hobj
  have hn : n ≤ 1000 := by simp [confB] at hc; omega
  have hmk := make_any Tryz.underlying67 Tryz.infoWk n hn (by decide)
  obtain ⟨mc, hmc⟩ : ∃ mc, mc = madeCells (Value.agg wkZ.toArray).cells (n * 74) := ⟨_, rfl⟩
  have HMC : Hid (mc = (wkCells [] (List.replicate n wk0) (List.replicate n nilV)).toArray) := by
    have := madeCells_rep wkZ n 74 wkZ_len (by decide)
    show mc = _
    rw [wk_rep, ← this, hmc]
    rfl
  rw [← hmc] at hmk
  have HB : Hid (Below w.heap.size w W1) := ((Below.refl _ _).alloc (Nat.le_refl _) _).trans (hb.mono (by simp))
  clear hobj hb hc hmc
  go_wp2
  go_region
  go_wp2
  refine bodyPost_ret (v := .tuple #[ptrV (W1.heap.size + 1), .int .i64 0]) (by simp [results, Tryz.results11, go_sem, ptrV]) rfl ?_
  refine ⟨fun k => if k = W1.heap.size then some 5 else if k = W1.heap.size + 1 then some 0 else none, W1.heap.size + 1, ⟨nilV, nilV, nilV, nilV, W1.heap.size, [], [], [], List.replicate n nilV⟩, rfl, ?_, fun k hk => ?_, ((HB.out.alloc (Nat.le_of_lt hl) _).alloc (by simp; omega) _).drew⟩
  · rw [prog0]
    have hg : ∀ {i : Nat}, i < n → ((List.replicate n nilV).getD i nilV = nilV ∧ (List.replicate n wk0).getD i wk0 = wk0) := fun hi => by simp [List.getD, hi]
    exact { blk := fun _ => ⟨by simp, (new1E W1 (.cells mc 140) _).trans (by simp only [List.length_replicate, deskC, tailC]; rfl)⟩
            jobs := fun _ => ⟨World.ownsRow_nil _ _ _ _, fun k hk => by cases hk⟩
            queue := fun _ => ⟨World.ownsRow_nil _ _ _ _, fun k hk => by cases hk⟩
            urg := fun _ => ⟨World.ownsRow_nil _ _ _ _, fun k hk => by cases hk⟩
            known := fun _ => ⟨World.ownsRow_nil _ _ _ _, fun k hk => by cases hk⟩
            work := fun _ => ⟨by simp, (new0E W1 (.cells mc 140) _).trans (by rw [HMC.out])⟩
            tb := fun i hi => absurd hi (Nat.not_lt_zero _)
            st := fun i hi => absurd hi (Nat.not_lt_zero _)
            told := fun i hi => absurd hi (Nat.not_lt_zero _)
            rtold := fun i hi _ => by
              simp only [List.length_replicate] at hi
              simp only [(hg hi).1, (hg hi).2]
              exact ⟨World.ownsRow_nil _ _ _ _, fun k hk => by cases hk⟩
            tsl := rfl
            sl := rfl
            tl := rfl
            rl := by simp
            wl := fun a ha => by rw [List.eq_of_mem_replicate (show a ∈ List.replicate n wk0 from ha)]; exact ⟨rfl, rfl⟩
            kl := fun u hu => by simp at hu }
  · by_cases e : k = W1.heap.size
    · omega
    · by_cases e' : k = W1.heap.size + 1
      · omega
      · simp [e, e'] at hk
theorem new_bad (a b c d : Int) (w : World) (hc : confB a b c d = false) :
    Calls Tryz.prog 11 #[.agg #[.int .i64 a, .int .i64 b, .int .i64 c, .int .i64 d]] w fun e w' => e = .returned (.tuple #[.pointer none, .int .i64 4]) ∧ Below w.heap.size w w' := by
  go_enter Tryz.func11, Tryz.ntmps11
  go_wp2_with fail
  refine (isConfig_any a b c d _).mono ?_
  rintro e W1 ⟨rfl, hb⟩
  rw [hc]
  have HB : Hid (Below w.heap.size w W1) := ((Below.refl _ _).alloc (Nat.le_refl _) _).trans (hb.mono (by simp))
  clear hb
  go_wp2
  exact bodyPost_ret (v := .tuple #[.pointer none, .int .i64 4]) (by simp [results, Tryz.results11, go_sem]) rfl ⟨rfl, HB.out⟩
theorem ppoll_no {p : PM} {n : Int} (hn : ¬ (1 ≤ n ∧ n ≤ p.tasks.length)) : p.poll n = (0, [], 0, 8) := by simp [PM.poll, hn]
theorem ppoll_yes {p : PM} {i : Nat} (hi : i < p.tasks.length) : p.poll ((i : Int) + 1) = ((p.tasks.getD i task0).state, (p.tasks.getD i task0).told, ((p.tasks.getD i task0).tries : Int), 0) := by
  have h : (1 : Int) ≤ (i : Int) + 1 ∧ (i : Int) + 1 ≤ p.tasks.length := by omega
  simp [PM.poll, h, PM.task, show ((i : Int) + 1).toNat = i + 1 by omega]
theorem map_any (o : Nat → Option Nat) (w : World) (b : Nat) (p : PM) (v : PV) (h : PD o w b p v) :
    Calls Tryz.prog 39 #[ptrV b] w fun e w' => Aftered (p.vals) w e w' := by
  have H : Hid (PD o w b p v) := h
  clear h
  unfold ptrV
  go_enter Tryz.func39, Tryz.ntmps39
  go_wp2_with fail
  refine (pairsE_any b 4 (p.vals) w H.out.lt H.out.mapAt).mono ?_
  rintro e W2 ⟨av, rfl, h1, h2⟩
  have HX : Hid (W2.ownsRow w.heap.size 58 2 av (listOf (p.vals)).length (prCells (listOf (p.vals))) ∧ Below w.heap.size w W2) := ⟨h1, h2⟩
  clear h1 h2
  go_wp2
  go_ret
  exact ⟨_, rfl, HX.out.1, HX.out.2⟩
theorem find_no (o : Nat → Option Nat) (w : World) (b : Nat) (p : PM) (v : PV) (n : Int) (h : PD o w b p v) (hn : ¬ (1 ≤ n ∧ n ≤ p.tasks.length)) :
    Calls Tryz.prog 61 #[ptrV b, .int .i64 n] w fun e w' => e = .returned (.pointer none) ∧ w' = w := by
  obtain ⟨ja, jc, hj⟩ := owns_form (h.jobs nX).1
  have c := h.cJobs
  rw [hj] at c
  generalize p.tasks.length = N at c hn
  have hin' : n < 1 ∨ (¬ n < 1 ∧ (N : Int) < n) := by omega
  unfold ptrV
  clear h hn hj
  rcases hin' with q | ⟨q, q2⟩
  all_goals
    go_enter Tryz.func61, Tryz.ntmps61
    go_wp2
    go_ret
    exact ⟨rfl, rfl⟩
theorem find_yes (o : Nat → Option Nat) (w : World) (b : Nat) (p : PM) (v : PV) (n : Int) (i : Nat) (h : PD o w b p v) (hl : p.tasks.length ≤ 1000000000000) (hi : i < p.tasks.length) (hni : n = (i : Int) + 1) :
    Calls Tryz.prog 61 #[ptrV b, .int .i64 n] w fun e w' => e = .returned (ptrV (v.ts.getD i 0)) ∧ w' = w := by
  have c := h.cJobs
  obtain ⟨g, cap, hv, hgl, hcell⟩ := owns_pos (h.jobs nX).1 (by omega)
  have cj := (hcell i (by omega)).trans (h.jsGet hi)
  rw [hv] at c
  generalize p.tasks.length = N at c hl hi
  have hw : IntKind.i64.wrap (n - 1) = (i : Int) := by rw [IntKind.wrap_i64]; omega
  have m0 : ¬ n < 1 := by omega
  have m1 : ¬ ((N : Int) < n) := by omega
  have m2 : (i : Int) < (N : Int) := by omega
  generalize v.ts.getD i 0 = tb at *
  unfold ptrV at *
  clear h hcell hv hi hni
  go_enter Tryz.func61, Tryz.ntmps61
  go_wp2
  go_ret
  exact ⟨rfl, rfl⟩
def PPolled (p : PM) (n : Int) (w : World) (e : Ending) (w' : World) : Prop :=
  ∃ tv, e = .returned (.tuple #[.agg #[.int .i64 (p.poll n).1, tv, .int .i64 (p.poll n).2.2.1], .int .i64 (p.poll n).2.2.2]) ∧ w'.ownsRow w.heap.size 3 1 tv (p.poll n).2.1.length ((p.poll n).2.1.map (Value.int .i64)) ∧ Below w.heap.size w w'
theorem poll_no_any (o : Nat → Option Nat) (w : World) (b : Nat) (p : PM) (v : PV) (n : Int) (h : PD o w b p v) (hn : ¬ (1 ≤ n ∧ n ≤ p.tasks.length)) :
    Calls Tryz.prog 41 #[ptrV b, .int .i64 n] w fun e w' => PPolled p n w e w' := by
  have HP : Hid (p.poll n = (0, [], 0, 8)) := ppoll_no hn
  have H : Hid (PD o w b p v) := h
  unfold ptrV
  go_enter Tryz.func41, Tryz.ntmps41
  go_wp2_with fail
  refine (find_no o _ b p v n (H.out.below ((Below.refl _ _).alloc (Nat.le_refl _) _)) hn).mono ?_
  rintro e W2 ⟨rfl, rfl⟩
  clear h hn
  go_wp2
  refine bodyPost_ret (v := .tuple #[.agg #[.int .i64 0, .slice none 0 0, .int .i64 0], .int .i64 8]) (by simp [results, Tryz.results41, go_sem]) rfl ?_
  exact ⟨.slice none 0 0, by rw [HP.out], by rw [HP.out]; exact World.ownsRow_nil _ _ _ _, (Below.refl _ _).alloc (Nat.le_refl _) _⟩
theorem poll_yes_any (o : Nat → Option Nat) (w : World) (b : Nat) (p : PM) (v : PV) (n : Int) (i : Nat) (h : PD o w b p v) (hl : p.tasks.length ≤ 1000000000000) (hi : i < p.tasks.length) (hni : n = (i : Int) + 1) (htl : (p.tasks.getD i task0).told.length ≤ 1000) :
    Calls Tryz.prog 41 #[ptrV b, .int .i64 n] w fun e w' => PPolled p n w e w' := by
  have HP : Hid (p.poll n = ((p.tasks.getD i task0).state, (p.tasks.getD i task0).told, ((p.tasks.getD i task0).tries : Int), 0)) := by rw [hni]; exact ppoll_yes hi
  have H : Hid (PD o w b p v) := h
  have HI : Hid (n = (i : Int) + 1 ∧ i < p.tasks.length ∧ p.tasks.length ≤ 1000000000000) := ⟨hni, hi, hl⟩
  have k2 := h.task hi
  obtain ⟨t1, t2⟩ := h.told i hi nX
  obtain ⟨tb, htb⟩ : ∃ tb, tb = v.ts.getD i 0 := ⟨_, rfl⟩
  have HTB : Hid (v.ts.getD i 0 = tb) := htb.symm
  rw [← htb] at k2
  clear htb
  generalize v.tv.getD i nilV = tv at k2 t1
  generalize v.sv.getD i nilV = sv at k2
  generalize p.tasks.getD i task0 = jm at k2 t1 htl HP
  have hbl := blk_lt k2
  have e1 : w.cell? ⟨tb, 1, none⟩ = some (.int .i64 jm.state) := by rw [blk_cell k2]; rfl
  have e2 : w.cell? ⟨tb, 2, none⟩ = some (.int .i64 (jm.tries : Int)) := by rw [blk_cell k2]; rfl
  have e4 : w.cell? ⟨tb, 5, none⟩ = some tv := by rw [blk_cell k2]; rfl
  obtain ⟨ta, tc, rfl⟩ := owns_form t1
  have HO : Hid (w.ownsRow 0 3 1 (.slice ta jm.told.length tc) jm.told.length (jm.told.map (Value.int .i64))) := t1
  unfold ptrV
  clear h hl hni hi k2 t2 t1
  obtain ⟨i0, hi0, hz0, hz1, hz2⟩ := info_parts Tryz.infoInt
  by_cases hn : jm.told.length = 0
  · have hx : jm.told = [] := List.eq_nil_of_length_eq_zero hn
    have HX : Hid (p.poll n = (jm.state, [], (jm.tries : Int), 0)) := by rw [HP.out, hx]; rfl
    have hao : ta = none → tc = 0 := fun e => by
      rcases HO.out.2 with ⟨h, _⟩ | ⟨g, cap, cur, h, _⟩
      · injection h with _ _ h
      · subst e; injection h with h; cases h
    rw [hn] at e4
    clear hx HO HP
    cases ta with
    | none =>
      obtain rfl := hao rfl
      go_enter Tryz.func41, Tryz.ntmps41
      go_wp2_with fail
      refine (find_yes o _ b p v n i (H.out.below ((Below.refl _ _).alloc (Nat.le_refl _) _)) HI.out.2.2 HI.out.2.1 HI.out.1).mono ?_
      rintro e W2 ⟨rfl, rfl⟩
      rw [HTB.out]
      unfold ptrV
      go_wp2_with (at_builtin; refine wpList_append_own_none (by rfl) _ _ 55 (by rfl) (w.heap.size + 1) 3 i0 1 Tryz.underlying55 hi0 _ _ _ (by rfl) (by have := owns_emptyI (w.alloc (.cells #[.int .i64 0, .slice none 0 0, .int .i64 0] 82)); simpa using this) (by rfl) ?_)
      go_region
      all_goals
        go_wp2
        refine bodyPost_ret (v := .tuple #[.agg #[.int .i64 jm.state, .slice (some ⟨w.heap.size + 1, 0, none⟩) 0 0, .int .i64 (jm.tries : Int)], .int .i64 0]) (by simp [results, Tryz.results41, go_sem]) rfl ?_
        refine ⟨.slice (some ⟨w.heap.size + 1, 0, none⟩) 0 0, by rw [HX.out], ?_, (((Below.refl _ _).alloc (Nat.le_refl _) _).alloc (by simp) _).drew⟩
        rw [HX.out]
        refine owns_keep (w := (w.alloc _).alloc _) (owns_base (base := w.heap.size + 1) ?_ (Nat.le_succ _)) (Below.refl _ _).drew
        have := owns_emptyI (w.alloc (.cells #[.int .i64 jm.state, .slice (some ⟨w.heap.size + 1, 0, none⟩) 0 0, .int .i64 (jm.tries : Int)] 82))
        simpa using this
    | some ad =>
      go_enter Tryz.func41, Tryz.ntmps41
      go_wp2_with fail
      refine (find_yes o _ b p v n i (H.out.below ((Below.refl _ _).alloc (Nat.le_refl _) _)) HI.out.2.2 HI.out.2.1 HI.out.1).mono ?_
      rintro e W2 ⟨rfl, rfl⟩
      rw [HTB.out]
      unfold ptrV
      go_wp2
      go_region
      all_goals
        go_wp2
        refine bodyPost_ret (v := .tuple #[.agg #[.int .i64 jm.state, .slice (some ⟨w.heap.size + 1, 0, none⟩) 0 0, .int .i64 (jm.tries : Int)], .int .i64 0]) (by simp [results, Tryz.results41, go_sem]) rfl ?_
        refine ⟨.slice (some ⟨w.heap.size + 1, 0, none⟩) 0 0, by rw [HX.out], ?_, (((Below.refl _ _).alloc (Nat.le_refl _) _).alloc (by simp) _).drew⟩
        rw [HX.out]
        refine owns_keep (w := (w.alloc _).alloc _) (owns_base (base := w.heap.size + 1) ?_ (Nat.le_succ _)) (Below.refl _ _).drew
        have := owns_emptyI (w.alloc (.cells #[.int .i64 jm.state, .slice (some ⟨w.heap.size + 1, 0, none⟩) 0 0, .int .i64 (jm.tries : Int)] 82))
        simpa using this
  · obtain ⟨g, cap, hv, hgl, hcell⟩ := owns_pos HO.out (by omega)
    injection hv with h1 h2 h3
    subst h1 h3
    obtain ⟨N, hN⟩ : ∃ N, N = jm.told.length := ⟨_, rfl⟩
    have HN : Hid (N = jm.told.length) := hN
    rw [← hN] at e4 hn htl
    have HC : Hid (∀ j u, (jm.told.map (Value.int .i64))[j]? = some u → w.cell? ⟨g, j, none⟩ = some u) := fun j u hj => by
      have hlt : j < jm.told.length := by simpa using (List.getElem?_eq_some_iff.1 hj).1
      rw [hcell j (by omega)]; exact hj
    have HE : Hid (((w.alloc (.cells #[.int .i64 0, .slice none 0 0, .int .i64 0] 82)).alloc (.cells #[] 3)).ownsRow (w.heap.size + 1) 3 1 (.slice (some ⟨w.heap.size + 1, 0, none⟩) 0 0) 0 []) := by
      have := owns_emptyI (w.alloc (.cells #[.int .i64 0, .slice none 0 0, .int .i64 0] 82))
      rw [World.size_alloc] at this
      exact this
    clear hN hcell h2 HO
    go_enter Tryz.func41, Tryz.ntmps41
    go_wp2_with fail
    refine (find_yes o _ b p v n i (H.out.below ((Below.refl _ _).alloc (Nat.le_refl _) _)) HI.out.2.2 HI.out.2.1 HI.out.1).mono ?_
    rintro e W2 ⟨rfl, rfl⟩
    rw [HTB.out]
    unfold ptrV
    go_wp2_with (at_builtin; refine wpList_append_lies _ (by rfl) _ _ 55 (by rfl) (w.heap.size + 1) 3 i0 _ 1 8 Tryz.underlying55 hi0 hz0 hz1 hz2 (by rfl) (by decide) (.slice (some ⟨w.heap.size + 1, 0, none⟩) 0 0) 0 [] (by rfl) HE.out ⟨g, 0, none⟩ N tc (jm.told.map (Value.int .i64)) (by rfl) ?_ ?_ ?_ (by omega) ?_ ?_ ?_ _ (by rfl) ?_)
    · rw [HN.out]; simp
    · intro j u hj
      have := HC.out j u hj
      rw [Addr.add_mid, Nat.zero_add]
      exact (((Below.refl w.heap.size w).alloc (Nat.le_refl _) _).alloc (by simp) _).cell (p := ⟨g, j, none⟩) hgl |>.trans this
    · intro u hu; obtain ⟨k, _, rfl⟩ := List.mem_map.1 hu; rfl
    · unfold maxLen; omega
    · omega
    · simp
    · intro g1 cap1 w2 hown2 hgrow2 hat hlt2
      have hbox : w2.heap[w.heap.size]? = some (.cells #[.int .i64 0, .slice none 0 0, .int .i64 0] 82 (0, 0)) := by
        rw [hgrow2.block w.heap.size (by simp; omega) (by simp [Value.ownBlock])]
        exact new0E _ _ _
      have hbel : Below w.heap.size w w2 := (((Below.refl w.heap.size w).alloc (Nat.le_refl _) _).alloc (by simp) _).grown hgrow2 (by simp; omega) (fun k hk => by injection hk with hk; have hk : w.heap.size + 1 = k := hk; omega)
      obtain ⟨b0, b1, b2, bf⟩ : w2.cell? ⟨w.heap.size, 0, none⟩ = some (.int .i64 0) ∧ w2.cell? ⟨w.heap.size, 1, none⟩ = some (.slice none 0 0) ∧ w2.cell? ⟨w.heap.size, 2, none⟩ = some (.int .i64 0) ∧ (∀ i, w2.frozen? ⟨w.heap.size, i, none⟩ = false) := ⟨by rw [blk_cell hbox]; rfl, by rw [blk_cell hbox]; rfl, by rw [blk_cell hbox]; rfl, fun _ => blk_free hbox⟩
      have f1 := (hbel.cell (p := ⟨tb, 1, none⟩) hbl).trans e1
      have f2 := (hbel.cell (p := ⟨tb, 2, none⟩) hbl).trans e2
      have HT : Hid (w2.ownsRow (w.heap.size + 1) 3 1 (.slice (some ⟨g1, 0, none⟩) N cap1) N (jm.told.map (Value.int .i64)) ∧ Below w.heap.size w w2) := ⟨by simpa using hown2, hbel⟩
      clear hown2 hgrow2 hat hlt2 hbox hbel e1 e2 e4
      have ne : ¬ tb = w.heap.size := by omega
      try simp only [Nat.zero_add]
      go_wp2
      go_region
      all_goals
        go_wp2
        refine bodyPost_ret (v := .tuple #[.agg #[.int .i64 jm.state, .slice (some ⟨g1, 0, none⟩) N cap1, .int .i64 (jm.tries : Int)], .int .i64 0]) (by simp [results, Tryz.results41, go_sem, b0, b1, b2]) rfl ?_
        have hng : (Value.slice (some ⟨g1, 0, none⟩) N cap1).ownBlock ≠ some w.heap.size := fun e => by have := owns_ge HT.out.1 e; omega
        refine ⟨.slice (some ⟨g1, 0, none⟩) N cap1, by rw [HP.out], ?_, ((HT.out.2.setCell (p := ⟨w.heap.size, _, none⟩) (Nat.le_refl _) _).setCell (p := ⟨w.heap.size, _, none⟩) (Nat.le_refl _) _).setCell (p := ⟨w.heap.size, _, none⟩) (Nat.le_refl _) _ |>.drew⟩
        rw [HP.out]
        refine owns_keep (owns_set (owns_set (owns_set (owns_base (base := w.heap.size + 1) ?_ (Nat.le_succ _)) hng _ _) hng _ _) hng _ _) (Below.refl _ _).drew
        simp only
        rw [← HN.out]
        exact HT.out.1
theorem poll_any (o : Nat → Option Nat) (w : World) (b : Nat) (p : PM) (v : PV) (n : Int) (h : PD o w b p v) (hl : p.tasks.length ≤ 1000000000000) (ht : ∀ i, i < p.tasks.length → (p.tasks.getD i task0).told.length ≤ 1000) :
    Calls Tryz.prog 41 #[ptrV b, .int .i64 n] w fun e w' => PPolled p n w e w' := by
  by_cases hin : 1 ≤ n ∧ n ≤ p.tasks.length
  · exact poll_yes_any o w b p v n (n - 1).toNat h hl (by omega) (by omega) (ht _ (by omega))
  · exact poll_no_any o w b p v n h hin
theorem prog_len (d : DeskM) : (progOf d).tasks.length = d.jobs.length := by simp [progOf]
theorem prog_task (d : DeskM) {i : Nat} (hi : i < d.jobs.length) : (progOf d).tasks.getD i task0 = taskOf (d.jobs.getD i jobM0) := by simp [progOf, List.getD, hi]
theorem prog_poll (d : DeskM) (n : Int) : (progOf d).poll n = d.poll n := by
  by_cases h : 1 ≤ n ∧ n ≤ d.jobs.length
  · obtain ⟨i, rfl⟩ : ∃ i : Nat, n = (i : Int) + 1 := ⟨(n - 1).toNat, by omega⟩
    have hi : i < d.jobs.length := by omega
    rw [ppoll_yes (by rw [prog_len]; exact hi), poll_yes hi, prog_task d hi]
    rfl
  · rw [ppoll_no (by rw [prog_len]; exact h), poll_no h]
def PDd (F : Nat → Prop) (w : World) (b : Nat) (d : DeskM) : Prop := ∃ o v, PD o w b (progOf d) v ∧ ∀ k, o k ≠ none → F k
def kitP : DeskKit where
  PD := PDd
  fr := fun ⟨o, v, h, hF⟩ hf hR => ⟨o, v, h.fr hf (fun k hk => hR k (hF k hk)) (Own.refl _ _), hF⟩
  mono := fun {F F' w b d} ⟨o, v, h, hF⟩ hm => ⟨fun k => if k < w.heap.size then o k else none, v, h.own (fun k hk => if_pos hk), fun k hk => by
    by_cases hl : k < w.heap.size
    · exact hm k hl (hF k (by simpa [hl] using hk))
    · simp [hl] at hk⟩
  new := fun cf w hc => (new_ok cf w hc).mono fun _ _ ⟨o, b, v, h1, h2, h3, h4⟩ => ⟨b, h1, ⟨o, v, h2, h3⟩, h4⟩
  newBad := fun a b c d w hc => new_bad a b c d w hc
  map := fun F w b d ⟨o, v, h, _⟩ => map_any o w b (progOf d) v h
  poll := fun F w b d n ⟨o, v, h, _⟩ hl ht => (poll_any o w b (progOf d) v n h (by rw [prog_len]; exact hl) (fun i hi => by rw [prog_len] at hi; rw [prog_task d hi]; exact ht i hi)).mono fun e w' hp => by
    obtain ⟨tv, h1, h2, h3⟩ := hp
    rw [prog_poll] at h1 h2
    exact ⟨tv, h1, h2, h3⟩
end Go.Proofs.YtlbmcdoldnajoaaGreat
