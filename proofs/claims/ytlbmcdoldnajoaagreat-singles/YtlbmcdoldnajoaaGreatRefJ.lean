import Derived.Test.YtlbmcdoldnajoaaGreatRefY
import Derived.Test.YtlbmcdoldnajoaaGreatLawE
import Derived.Test.YtlbmcdoldnajoaaGreatLawK
import Derived.Laws.AppendOwnNone
set_option maxRecDepth 100000
set_option maxHeartbeats 1000000
namespace Go.Proofs.YtlbmcdoldnajoaaGreat
open Go.RowKit
theorem goOK_of {d : DeskM} (hA : Ask d) {i : Nat} (hi : i < d.c.workers) (h0 : (d.workers.getD i att0).ticket ≠ 0) : GoOK d i ((d.workers.getD i att0).ticket - 1) := by
  have h := hA.inv
  have hc := h.conf
  have hwl := h.wlen
  have hg := goods_le h
  have hq := queue_le h
  have hu := urgent_le h
  have hb := hA.bd.1
  obtain ⟨hn, _, hbg, hdn, _⟩ := h.work i hi h0
  have hbg : (d.workers.getD i att0).beg ≤ d.goods.length := hbg
  have hdn : (d.workers.getD i att0).done ≤ d.c.fuel := hdn
  have hn1 : 1 ≤ (d.workers.getD i att0).ticket := hn.1
  have hn2 : (d.workers.getD i att0).ticket ≤ d.jobs.length := hn.2
  refine ⟨by omega, by omega, by omega, (h.jobs _ hn).1, hbg, ?_, fun k => mapF_le h.g hbg k, hdn, by omega, ⟨by omega, by omega, by omega⟩, fun q hq => ?_, by omega, by omega, ?_⟩
  · rw [show mapF (d.goods.take (d.workers.getD i att0).beg) = chainMap d.goods (List.range (d.workers.getD i att0).beg) from mapF_take _ _ hbg]
    exact (chain_list h.g.goods (τ := List.range (d.workers.getD i att0).beg) (fun j hj => by have := List.mem_range.1 hj; omega)).1
  · have := h.g.goods.ord.begle q hq
    have e : (gAt d.goods q).beg = (d.goods.getD q good0).beg := rfl
    omega
  · have h1 := hA.urg.few _ hn
    show (d.job (d.workers.getD i att0).ticket).failed ≤ _
    have h1 : (d.job (d.workers.getD i att0).ticket).failed ≤ d.c.patience + 1 := h1
    omega
theorem hurry_pos {d : DeskM} (h : DInv d) (hh : d.hurry = true) (hi : d.idle = true) : 0 < d.urgent.length := by
  unfold DeskM.hurry at hh
  unfold DeskM.idle at hi
  rw [List.any_eq_true] at hh
  rw [List.all_eq_true] at hi
  obtain ⟨j, hj, hp⟩ := hh
  rw [Bool.and_eq_true] at hp
  have h2 := of_decide_eq_true (hi j hj)
  have h3 := of_decide_eq_true hp.2
  obtain ⟨n, hn, e⟩ := job_num hj
  have h4 := (h.jobs n hn).2.1
  have hm : n ∈ d.urgent := (h.urM n).2 ⟨hn, by rw [e] at h4 ⊢; omega, by rw [e]; exact hp.1⟩
  exact List.length_pos_of_mem hm
theorem next_le {d : DeskM} (h : DInv d) : d.nextJob ≤ d.jobs.length := by
  by_cases h0 : d.nextJob = 0
  · omega
  · rcases next_mem h0 with hm | hm
    · exact ((h.urM _).1 hm).1.2
    · exact ((h.quM _).1 hm).1.2
theorem pick_no {d : DeskM} {i : Int} (h : ¬ (0 ≤ i ∧ i < d.c.workers)) : d.pick i = (d, (0, 0, 0), 6) := by
  have e : d.workerB i = false := decide_eq_false h
  unfold DeskM.pick
  rw [if_pos e]
theorem pick_idle {d : DeskM} {i : Nat} (h : i < d.c.workers) (h0 : (d.workers.getD i att0).ticket = 0) : d.pick (i : Int) = ((d.taken i).1, (d.taken i).2, 0) := by
  have e : ¬ d.workerB (i : Int) = false := by
    rw [show d.workerB (i : Int) = true from decide_eq_true (by omega)]
    simp
  unfold DeskM.pick
  rw [if_neg e, Int.toNat_natCast, if_pos h0]
theorem pick_goes {d : DeskM} {i : Nat} (h : i < d.c.workers) (h0 : ¬ (d.workers.getD i att0).ticket = 0) : d.pick (i : Int) = ((d.goes i).1, (d.goes i).2, 0) := by
  have e : ¬ d.workerB (i : Int) = false := by
    rw [show d.workerB (i : Int) = true from decide_eq_true (by omega)]
    simp
  unfold DeskM.pick
  rw [if_neg e, Int.toNat_natCast, if_neg h0]
theorem refPick_any (F : Nat → Prop) (w : World) (rb : Nat) (d : DeskM) (v : RV) (i : Int) (h : RD F w rb d v) (hA : Ask d) (hF : ∀ k, w.heap.size ≤ k → F k) :
    Calls Tryz.prog 60 #[ptrV rb, .int .i64 i] w fun e w' => RStep F w rb (d.pick i).1 (pickV d i) e w' := by
  have H : Hid (RD F w rb d v) := h
  have HA : Hid (Ask d) := hA
  have HF : Hid (∀ k, w.heap.size ≤ k → F k) := hF
  have c0 : w.cell? ⟨rb, 0, none⟩ = some (.int .i64 (d.c.workers : Int)) := by rw [blk_cell h.blk]; rfl
  have hrb := blk_lt h.blk
  by_cases hin : 0 ≤ i ∧ i < d.c.workers
  · obtain ⟨k, rfl⟩ : ∃ k : Nat, i = k := ⟨i.toNat, by omega⟩
    have hk : k < d.c.workers := by omega
    have hwl := hA.inv.wlen
    obtain ⟨wg, wcap, hwv, hwgl, hwcell⟩ := owns_pos h.work (by omega)
    have c7 : w.cell? ⟨rb, 7, none⟩ = some (.slice (some ⟨wg, 0, none⟩) d.workers.length wcap) := by rw [blk_cell h.blk, ← hwv]; rfl
    have a0 : w.cell? ⟨wg, k * 3, none⟩ = some (.int .i64 ((d.workers.getD k att0).ticket : Nat)) := ((hwcell (k * 3) (by omega)).trans (attCells_at d.workers (i := k) (by omega) (k := 0) (by decide))).trans rfl
    obtain ⟨tk, htk⟩ : ∃ tk, tk = (d.workers.getD k att0).ticket := ⟨_, rfl⟩
    rw [← htk] at a0
    have HK : Hid (k < d.c.workers ∧ tk = (d.workers.getD k att0).ticket) := ⟨hk, htk⟩
    have mk : (k : Int) < (d.c.workers : Int) := by omega
    have mk2 : (k : Int) < (d.workers.length : Int) := by omega
    unfold ptrV
    clear h hA hF hwv hwcell htk hin
    by_cases h0 : tk = 0
    · subst h0
      go_enter Tryz.func60, Tryz.ntmps60
      go_wp2_with fail
      have hbw : Below w.heap.size w (w.alloc (.cells #[.int .i64 0, .int .i64 0, .int .i64 0] 122)) := (Below.refl _ _).alloc (Nat.le_refl _) _
      have hsz : (w.alloc (.cells #[.int .i64 0, .int .i64 0, .int .i64 0] 122)).heap.size = w.heap.size + 1 := by simp
      have hrd : RD (fun k => F k ∧ k ≠ w.heap.size) (w.alloc (.cells #[.int .i64 0, .int .i64 0, .int .i64 0] 122)) rb d v := (H.out.mono (fun k hk e => ⟨e, by omega⟩)).below hbw
      have hfn : ∀ k, (w.alloc (.cells #[.int .i64 0, .int .i64 0, .int .i64 0] 122)).heap.size ≤ k → F k ∧ k ≠ w.heap.size := fun k hk => ⟨HF.out k (by omega), by omega⟩
      have hfa := refTaken_any _ _ rb d v k hrd (by have := HA.out.inv.wlen; have := HK.out.1; omega) (by have := HA.out.bd.1; omega) ⟨by have := queue_le HA.out.inv; have := HA.out.bd.1; omega, by have := urgent_le HA.out.inv; have := HA.out.bd.1; omega, by have := HA.out.inv.wlen; have := HA.out.inv.conf; omega, by have := goods_le HA.out.inv; have := HA.out.bd.1; omega, fun q _ => by have := HA.out.bd.job (q + 1); have e : d.job (q + 1) = d.jobs.getD q jobM0 := rfl; rw [e] at this; omega⟩ (hurry_pos HA.out.inv) (next_le HA.out.inv) hfn
      unfold ptrV natV at hfa
      refine hfa.mono ?_
      clear hfa
      rintro e W8 ⟨rfl, v8, hr8, hf8⟩
      obtain ⟨nt, hnt⟩ : ∃ nt, nt = d.taken k := ⟨_, rfl⟩
      rw [← hnt] at hr8 ⊢
      have HLk : Hid (d.pick (k : Int) = (nt.1, nt.2, 0)) := by rw [hnt]; exact pick_idle HK.out.1 HK.out.2.symm
      have hN8 : W8.heap[w.heap.size]? = some (.cells #[.int .i64 0, .int .i64 0, .int .i64 0] 122 (0, 0)) := hf8.blk (heap_alloc_new _ _) (fun h => h.2 rfl)
      have HR8 : Hid (RD (fun k => F k ∧ k ≠ w.heap.size) W8 rb nt.1 v8 ∧ Fr F w W8) := ⟨hr8, (Fr.of_below (S := F) hbw).trans hf8 (fun _ _ h => h.1)⟩
      have o0 : W8.cell? ⟨w.heap.size, 0, none⟩ = some (.int .i64 0) := by rw [blk_cell hN8]; rfl
      have o1 : W8.cell? ⟨w.heap.size, 1, none⟩ = some (.int .i64 0) := by rw [blk_cell hN8]; rfl
      have o2 : W8.cell? ⟨w.heap.size, 2, none⟩ = some (.int .i64 0) := by rw [blk_cell hN8]; rfl
      have of : ∀ z, W8.frozen? ⟨w.heap.size, z, none⟩ = false := fun z => blk_free hN8
      obtain ⟨nd, na, nb, nc⟩ := nt
      unfold noteV natV
      clear hnt hr8 hf8 hN8 hbw hsz hrd hfn
      go_wp2
      refine bodyPost_ret (v := .tuple #[.agg #[.int .i64 na, .int .i64 (nb : Int), .int .i64 (nc : Int)], .int .i64 0]) (by simp [results, Tryz.results60, go_sem, o0, o1, o2]) rfl ?_
      unfold pickV
      rw [HLk.out]
      first
        | exact (rstep_note (n0 := w.heap.size) HR8.out.1 HR8.out.2 (Nat.le_refl _) _ _ _).drew
        | exact rstep_note (n0 := w.heap.size) HR8.out.1 HR8.out.2 (Nat.le_refl _) _ _ _
    · have m0 : ¬ (tk : Int) = 0 := by omega
      go_enter Tryz.func60, Tryz.ntmps60
      go_wp2_with fail
      have hbw : Below w.heap.size w (w.alloc (.cells #[.int .i64 0, .int .i64 0, .int .i64 0] 122)) := (Below.refl _ _).alloc (Nat.le_refl _) _
      have hsz : (w.alloc (.cells #[.int .i64 0, .int .i64 0, .int .i64 0] 122)).heap.size = w.heap.size + 1 := by simp
      have hrd : RD (fun k => F k ∧ k ≠ w.heap.size) (w.alloc (.cells #[.int .i64 0, .int .i64 0, .int .i64 0] 122)) rb d v := (H.out.mono (fun k hk e => ⟨e, by omega⟩)).below hbw
      have hfn : ∀ k, (w.alloc (.cells #[.int .i64 0, .int .i64 0, .int .i64 0] 122)).heap.size ≤ k → F k ∧ k ≠ w.heap.size := fun k hk => ⟨HF.out k (by omega), by omega⟩
      have hfa := refGoes_any _ _ rb d v k _ hrd (goOK_of HA.out HK.out.1 (by rw [← HK.out.2]; exact h0)) hfn
      unfold ptrV natV at hfa
      refine hfa.mono ?_
      clear hfa
      rintro e W8 ⟨rfl, v8, hr8, hf8⟩
      obtain ⟨nt, hnt⟩ : ∃ nt, nt = d.goes k := ⟨_, rfl⟩
      rw [← hnt] at hr8 ⊢
      have HLk : Hid (d.pick (k : Int) = (nt.1, nt.2, 0)) := by rw [hnt]; exact pick_goes HK.out.1 (by rw [← HK.out.2]; exact h0)
      have hN8 : W8.heap[w.heap.size]? = some (.cells #[.int .i64 0, .int .i64 0, .int .i64 0] 122 (0, 0)) := hf8.blk (heap_alloc_new _ _) (fun h => h.2 rfl)
      have HR8 : Hid (RD (fun k => F k ∧ k ≠ w.heap.size) W8 rb nt.1 v8 ∧ Fr F w W8) := ⟨hr8, (Fr.of_below (S := F) hbw).trans hf8 (fun _ _ h => h.1)⟩
      have o0 : W8.cell? ⟨w.heap.size, 0, none⟩ = some (.int .i64 0) := by rw [blk_cell hN8]; rfl
      have o1 : W8.cell? ⟨w.heap.size, 1, none⟩ = some (.int .i64 0) := by rw [blk_cell hN8]; rfl
      have o2 : W8.cell? ⟨w.heap.size, 2, none⟩ = some (.int .i64 0) := by rw [blk_cell hN8]; rfl
      have of : ∀ z, W8.frozen? ⟨w.heap.size, z, none⟩ = false := fun z => blk_free hN8
      obtain ⟨nd, na, nb, nc⟩ := nt
      unfold noteV natV
      clear hnt hr8 hf8 hN8 hbw hsz hrd hfn
      go_wp2
      refine bodyPost_ret (v := .tuple #[.agg #[.int .i64 na, .int .i64 (nb : Int), .int .i64 (nc : Int)], .int .i64 0]) (by simp [results, Tryz.results60, go_sem, o0, o1, o2]) rfl ?_
      unfold pickV
      rw [HLk.out]
      first
        | exact (rstep_note (n0 := w.heap.size) HR8.out.1 HR8.out.2 (Nat.le_refl _) _ _ _).drew
        | exact rstep_note (n0 := w.heap.size) HR8.out.1 HR8.out.2 (Nat.le_refl _) _ _ _
  · have HE : Hid (d.pick i = (d, (0, 0, 0), 6)) := pick_no hin
    unfold ptrV
    clear h hA hF
    rcases (show i < 0 ∨ (¬ i < 0 ∧ (d.c.workers : Int) ≤ i) by omega) with m1 | ⟨m1, m2⟩
    · go_enter Tryz.func60, Tryz.ntmps60
      go_wp2
      refine bodyPost_ret (v := .tuple #[.agg #[.int .i64 0, .int .i64 0, .int .i64 0], .int .i64 6]) (by simp [results, Tryz.results60, go_sem]) rfl ?_
      unfold pickV
      rw [HE.out]
      exact ⟨rfl, v, H.out.below ((Below.refl _ _).alloc (Nat.le_refl _) _), Fr.of_below ((Below.refl _ _).alloc (Nat.le_refl _) _)⟩
    · go_enter Tryz.func60, Tryz.ntmps60
      go_wp2
      refine bodyPost_ret (v := .tuple #[.agg #[.int .i64 0, .int .i64 0, .int .i64 0], .int .i64 6]) (by simp [results, Tryz.results60, go_sem]) rfl ?_
      unfold pickV
      rw [HE.out]
      exact ⟨rfl, v, H.out.below ((Below.refl _ _).alloc (Nat.le_refl _) _), Fr.of_below ((Below.refl _ _).alloc (Nat.le_refl _) _)⟩
theorem kill_no {d : DeskM} {i : Int} (h : ¬ (0 ≤ i ∧ i < d.c.workers)) : d.kill i = (d, 6) := by
  have e : d.workerB i = false := decide_eq_false h
  unfold DeskM.kill
  rw [if_pos e]
theorem kill_idle {d : DeskM} {i : Nat} (h : i < d.c.workers) (h0 : (d.workers.getD i att0).ticket = 0) : d.kill (i : Int) = (d, 7) := by
  have e : ¬ d.workerB (i : Int) = false := by
    rw [show d.workerB (i : Int) = true from decide_eq_true (by omega)]
    simp
  unfold DeskM.kill
  rw [if_neg e, Int.toNat_natCast]
  simp only [h0, if_true]
theorem kill_yes {d : DeskM} {i q : Nat} (h : i < d.c.workers) (h0 : (d.workers.getD i att0).ticket = q + 1) : d.kill (i : Int) =
    (if (d.jobs.getD q jobM0).urgent then DeskM.mk d.c (d.jobs.set q { d.jobs.getD q jobM0 with state := 1 }) d.queue ((q + 1) :: d.urgent) (d.workers.set i att0) d.goods
      else DeskM.mk d.c (d.jobs.set q { d.jobs.getD q jobM0 with state := 1 }) ((q + 1) :: d.queue) d.urgent (d.workers.set i att0) d.goods, 0) := by
  have e : ¬ d.workerB (i : Int) = false := by
    rw [show d.workerB (i : Int) = true from decide_eq_true (by omega)]
    simp
  unfold DeskM.kill
  rw [if_neg e, Int.toNat_natCast]
  simp only [h0]
  rw [if_neg (by omega)]
  rfl
theorem wpList_app_row {w : World} {ops : Array Oper} {rest : List Oper} {o : Oper} {a : Act} {Q : Exit → Act → World → Prop} (hgd : o.guard = none) (s x : Operand)
    (ho : o.op = .call { callee := .builtin .append, args := #[s, x], argTypes := #[55, 55] }) (base : Nat) (v : Value) (n : Nat) (xs : List Value) (hs : a.eval s = v) (hown : w.ownsRow base 3 1 v n xs)
    (u : Value) (m : Nat) (ys : List Value) (hx : a.eval x = u) (hrow : w.ownsRow 0 3 1 u m ys) (h1 : ∀ u ∈ ys, u.oneCell' = true)
    (h63 : n + m ≤ maxLen) (hbytes : (n + m) * 8 ≤ 140737488355328) (hbase : base ≤ w.heap.size)
    (h : ∀ v' w', w'.ownsRow base 3 1 v' (n + m) (xs ++ ys) → w.grownBy w' v.ownBlock → wpList Tryz.prog ops Q rest (a.put o.dst v') w') : wpList Tryz.prog ops Q (o :: rest) a w := by
  obtain ⟨i0, hi, hz0, hz1, hz2⟩ := info_parts Tryz.infoInt
  rcases hrow.2 with ⟨rfl, hm⟩ | ⟨g, cap, cur, rfl, _, hh, _⟩
  · subst hm
    have hy : ys = [] := List.eq_nil_of_length_eq_zero (by rw [hrow.1])
    subst hy
    refine wpList_append_own_none hgd s x 55 ho base 3 i0 1 Tryz.underlying55 hi v n xs hs hown hx ?_
    exact h v w (by rw [List.append_nil]; exact hown) (World.grownBy.refl _ _)
  · refine wpList_plain hgd fun K hK => ?_
    obtain ⟨v', w', hr, h2, h3, _⟩ := run_append_own_at (P := Tryz.prog) w base 55 o.type 3 i0 _ 1 8 Tryz.underlying55 hi hz0 hz1 hz2 rfl (by decide) v n xs hown ⟨g, 0, none⟩ m cap ys hrow.1 (fun j y hj => by
      have hlt : j < m * 1 := by rw [← hrow.1]; exact (List.getElem?_eq_some_iff.1 hj).1
      rw [WideShapes.add_plain, Nat.zero_add, hrow.cellAt j hlt]
      exact hj) h1 h63 hbytes hbase
    unfold Oper.wp execOp
    simp only [ho, resolve, invoke, builtin, Sem.run_bind, Sem.run_pure, Result.andThen_ok, List.map_toArray, List.map_cons, List.map_nil, hs, hx, hr]
    exact hK _ _ (h v' w' h2 h3)
theorem name_list {ops : Array Oper} {rest : List Oper} {a : Act} {Q : Exit → Act → World → Prop} {W : World} {p : World → Prop} (h : p W) (k : ∀ W', p W' → wpList Tryz.prog ops Q rest a W') : wpList Tryz.prog ops Q rest a W := k W h
theorem own_one (X : World) (n : Nat) : (X.alloc (.cells #[.int .i64 (n : Int)] 3)).ownsRow X.heap.size 3 1 (.slice (some ⟨X.heap.size, 0, none⟩) 1 1) 1 [natV n] :=
  ⟨rfl, Or.inr ⟨X.heap.size, 1, #[.int .i64 (n : Int)], rfl, Nat.le_refl _, heap_alloc_new _ _, Nat.le_refl _, by decide, rfl, rfl⟩⟩
theorem nat_cells (l : List Nat) : ∀ u ∈ l.map natV, u.oneCell' = true := fun u hu => by
  obtain ⟨n, _, rfl⟩ := List.mem_map.1 hu
  rfl
theorem RD.frontU {F : Nat → Prop} {X w' : World} {rb n : Nat} {d : DeskM} {v : RV} {v' : Value} (h : RD F X rb d v) (hF : ∀ k, X.heap.size ≤ k → F k) (h2 : w'.ownsRow X.heap.size 3 1 v' (1 + d.urgent.length) ([natV n] ++ d.urgent.map natV)) (h3 : (X.alloc (.cells #[.int .i64 (n : Int)] 3)).grownBy w' (Value.slice (some ⟨X.heap.size, 0, none⟩) 1 1).ownBlock) :
    w'.cell? ⟨rb, 6, none⟩ = some v.uv ∧ w'.frozen? ⟨rb, 6, none⟩ = false ∧ RD F (w'.setCell ⟨rb, 6, none⟩ v') rb { d with urgent := n :: d.urgent } { v with uv := v' } ∧ Fr F X (w'.setCell ⟨rb, 6, none⟩ v') := by
  have hf : ∀ S : Nat → Prop, Fr S X w' := fun S => ((Fr.refl S X).alloc _).grown h3 (fun k hk hlt => by
    injection hk with hk
    have hk : X.heap.size = k := hk
    omega)
  have hb := (hf (fun _ => False)).blk h.blk (fun e => e)
  have h2' : w'.ownsRow 0 3 1 v' (n :: d.urgent).length ((n :: d.urgent).map natV) := by
    rw [List.length_cons, Nat.add_comm]
    exact owns_base h2 (Nat.zero_le _)
  obtain ⟨r1, r2⟩ := h.setU h2' (fun k hk => hF k (owns_ge h2 hk)) (hf _) (fun k hk e => by have := owns_ge h2 e; omega)
  exact ⟨by rw [blk_cell hb]; rfl, blk_free hb, r1, r2⟩
theorem RD.frontQ {F : Nat → Prop} {X w' : World} {rb n : Nat} {d : DeskM} {v : RV} {v' : Value} (h : RD F X rb d v) (hF : ∀ k, X.heap.size ≤ k → F k) (h2 : w'.ownsRow X.heap.size 3 1 v' (1 + d.queue.length) ([natV n] ++ d.queue.map natV)) (h3 : (X.alloc (.cells #[.int .i64 (n : Int)] 3)).grownBy w' (Value.slice (some ⟨X.heap.size, 0, none⟩) 1 1).ownBlock) :
    w'.cell? ⟨rb, 5, none⟩ = some v.qv ∧ w'.frozen? ⟨rb, 5, none⟩ = false ∧ RD F (w'.setCell ⟨rb, 5, none⟩ v') rb { d with queue := n :: d.queue } { v with qv := v' } ∧ Fr F X (w'.setCell ⟨rb, 5, none⟩ v') := by
  have hf : ∀ S : Nat → Prop, Fr S X w' := fun S => ((Fr.refl S X).alloc _).grown h3 (fun k hk hlt => by
    injection hk with hk
    have hk : X.heap.size = k := hk
    omega)
  have hb := (hf (fun _ => False)).blk h.blk (fun e => e)
  have h2' : w'.ownsRow 0 3 1 v' (n :: d.queue).length ((n :: d.queue).map natV) := by
    rw [List.length_cons, Nat.add_comm]
    exact owns_base h2 (Nat.zero_le _)
  obtain ⟨r1, r2⟩ := h.setQ h2' (fun k hk => hF k (owns_ge h2 hk)) (hf _) (fun k hk e => by have := owns_ge h2 e; omega)
  exact ⟨by rw [blk_cell hb]; rfl, blk_free hb, r1, r2⟩
theorem refKill_any (F : Nat → Prop) (w : World) (rb : Nat) (d : DeskM) (v : RV) (i : Int) (h : RD F w rb d v) (hA : Ask d) (hF : ∀ k, w.heap.size ≤ k → F k) :
    Calls Tryz.prog 38 #[ptrV rb, .int .i64 i] w fun e w' => RStep F w rb (d.kill i).1 (.int .i64 (d.kill i).2) e w' := by
  have H : Hid (RD F w rb d v) := h
  have HA : Hid (Ask d) := hA
  have HF : Hid (∀ k, w.heap.size ≤ k → F k) := hF
  have c0 : w.cell? ⟨rb, 0, none⟩ = some (.int .i64 (d.c.workers : Int)) := by rw [blk_cell h.blk]; rfl
  have hrb := blk_lt h.blk
  by_cases hin : 0 ≤ i ∧ i < d.c.workers
  · obtain ⟨k, rfl⟩ : ∃ k : Nat, i = k := ⟨i.toNat, by omega⟩
    have hk : k < d.c.workers := by omega
    have hwl := hA.inv.wlen
    obtain ⟨wg, wcap, hwv, hwgl, hwcell⟩ := owns_pos h.work (by omega)
    have c7 : w.cell? ⟨rb, 7, none⟩ = some (.slice (some ⟨wg, 0, none⟩) d.workers.length wcap) := by rw [blk_cell h.blk, ← hwv]; rfl
    have hat : ∀ j, j < 3 → w.cell? ⟨wg, k * 3 + j, none⟩ = (attC (d.workers.getD k att0))[j]? := fun j hj => by
      rw [hwcell (k * 3 + j) (by omega)]
      exact attCells_at d.workers (by omega) hj
    have a0 : w.cell? ⟨wg, k * 3, none⟩ = some (.int .i64 ((d.workers.getD k att0).ticket : Nat)) := (hat 0 (by decide)).trans rfl
    have a1 : w.cell? ⟨wg, k * 3 + 1, none⟩ = some (.int .i64 ((d.workers.getD k att0).beg : Nat)) := (hat 1 (by decide)).trans rfl
    have a2 : w.cell? ⟨wg, k * 3 + 2, none⟩ = some (.int .i64 ((d.workers.getD k att0).done : Nat)) := (hat 2 (by decide)).trans rfl
    have hWow : w.ownsRow 0 136 3 (.slice (some ⟨wg, 0, none⟩) d.workers.length wcap) d.workers.length (attCells d.workers) := by rw [← hwv]; exact h.work
    have wf : ∀ z, w.frozen? ⟨wg, z, none⟩ = false := fun z => hWow.frozenAt z
    obtain ⟨tk, htk⟩ : ∃ tk, tk = (d.workers.getD k att0).ticket := ⟨_, rfl⟩
    obtain ⟨bg, hbg⟩ : ∃ bg, bg = (d.workers.getD k att0).beg := ⟨_, rfl⟩
    obtain ⟨dn, hdn⟩ : ∃ dn, dn = (d.workers.getD k att0).done := ⟨_, rfl⟩
    rw [← htk] at a0
    rw [← hbg] at a1
    rw [← hdn] at a2
    have HK : Hid (k < d.c.workers ∧ tk = (d.workers.getD k att0).ticket) := ⟨hk, htk⟩
    have mk : (k : Int) < (d.c.workers : Int) := by omega
    have mk2 : (k : Int) < (d.workers.length : Int) := by omega
    by_cases h0 : tk = 0
    · subst h0
      have HE : Hid (d.kill (k : Int) = (d, 7)) := kill_idle hk htk.symm
      unfold ptrV
      clear h hA hF hwv hwcell htk hin hat hWow hbg hdn
      go_enter Tryz.func38, Tryz.ntmps38
      go_wp2
      go_ret
      rw [HE.out]
      exact ⟨rfl, v, H.out, Fr.refl _ _⟩
    · obtain ⟨q, hq⟩ : ∃ q, tk = q + 1 := ⟨tk - 1, by omega⟩
      have hn := (hA.inv.work k hk (by show (d.workers.getD k att0).ticket ≠ 0; omega)).1
      have hqN : q < d.jobs.length := by have : (d.workers.getD k att0).ticket ≤ d.jobs.length := hn.2; omega
      have HQ : Hid (tk = q + 1 ∧ q < d.jobs.length) := ⟨hq, hqN⟩
      have m0 : ¬ (tk : Int) = 0 := by omega
      have hX : RD F (((w.setCell ⟨wg, k * 3, none⟩ (.int .i64 0)).setCell ⟨wg, k * 3 + 1, none⟩ (.int .i64 0)).setCell ⟨wg, k * 3 + 2, none⟩ (.int .i64 0)) rb { d with workers := d.workers.set k att0 } v ∧ Fr F w (((w.setCell ⟨wg, k * 3, none⟩ (.int .i64 0)).setCell ⟨wg, k * 3 + 1, none⟩ (.int .i64 0)).setCell ⟨wg, k * 3 + 2, none⟩ (.int .i64 0)) := by
        have hown := (((hWow.stored (k * 3) (.int .i64 0)).1.stored (k * 3 + 1) (.int .i64 0)).1.stored (k * 3 + 2) (.int .i64 0)).1
        have ee : (((attCells d.workers).set (k * 3) (.int .i64 0)).set (k * 3 + 1) (.int .i64 0)).set (k * 3 + 2) (.int .i64 0) = attCells (d.workers.set k att0) := attCells_set d.workers (by omega) att0
        rw [ee, ← hwv] at hown
        have hwk : ∀ j, j = wg → v.wv.ownBlock = some j := fun j hj => by rw [hwv, hj]; rfl
        exact h.setW (ws := d.workers.set k att0) (by simp) hown ((((Fr.refl _ _).setCell (p := ⟨wg, _, none⟩) (fun _ => hwk wg rfl) _).setCell (p := ⟨wg, _, none⟩) (fun _ => hwk wg rfl) _).setCell (p := ⟨wg, _, none⟩) (fun _ => hwk wg rfl) _)
      have hX2 := hX.1.jobCell (i := q) hqN (c := 1) (x := .int .i64 1) (j' := { d.jobs.getD q jobM0 with state := 1 }) rfl rfl rfl
      have hsz : (((w.setCell ⟨wg, k * 3, none⟩ (.int .i64 0)).setCell ⟨wg, k * 3 + 1, none⟩ (.int .i64 0)).setCell ⟨wg, k * 3 + 2, none⟩ (.int .i64 0)).heap.size = w.heap.size := by simp
      have HE : Hid (d.kill (k : Int) = (if (d.jobs.getD q jobM0).urgent then DeskM.mk d.c (d.jobs.set q { d.jobs.getD q jobM0 with state := 1 }) d.queue ((q + 1) :: d.urgent) (d.workers.set k att0) d.goods
        else DeskM.mk d.c (d.jobs.set q { d.jobs.getD q jobM0 with state := 1 }) ((q + 1) :: d.queue) d.urgent (d.workers.set k att0) d.goods, 0)) := kill_yes hk (htk.symm.trans hq)
      obtain ⟨jg, jcap, hjv, hjl, hjc⟩ := owns_pos h.jobs (by omega)
      have c4 : w.cell? ⟨rb, 4, none⟩ = some (.slice (some ⟨jg, 0, none⟩) d.jobs.length jcap) := by rw [blk_cell h.blk, ← hjv]; rfl
      obtain ⟨jb, hjb⟩ : ∃ jb, jb = v.js.getD q 0 := ⟨_, rfl⟩
      have cj : w.cell? ⟨jg, q, none⟩ = some (.pointer (some ⟨jb, 0, none⟩)) := by
        rw [hjb]
        exact (hjc q (by omega)).trans (h.jsGet hqN)
      have hjk := (h.jb q hqN).2
      rw [← hjb] at hjk
      rw [← hjb] at hX2
      have HX : Hid (∃ X : World, (RD F X rb (DeskM.mk d.c (d.jobs.set q { d.jobs.getD q jobM0 with state := 1 }) d.queue d.urgent (d.workers.set k att0) d.goods) v ∧ Fr F w X ∧ X.heap.size = w.heap.size) ∧ (((((w.setCell ⟨wg, k * 3, none⟩ (.int .i64 0)).setCell ⟨wg, k * 3 + 1, none⟩ (.int .i64 0)).setCell ⟨wg, k * 3 + 2, none⟩ (.int .i64 0)).setCell ⟨jb, 1, none⟩ (.int .i64 1)).alloc (.cells #[.int .i64 (tk : Int)] 3)) = X.alloc (.cells #[.int .i64 (tk : Int)] 3)) := ⟨_, ⟨hX2.1, hX.2.trans hX2.2 (fun _ _ h => h), by rw [World.size_setCell]; exact hsz⟩, rfl⟩
      obtain ⟨js, hjs⟩ : ∃ js, js = (d.jobs.getD q jobM0).state := ⟨_, rfl⟩
      obtain ⟨ju, hju⟩ : ∃ ju, ju = (d.jobs.getD q jobM0).urgent := ⟨_, rfl⟩
      have HJu : Hid (ju = (d.jobs.getD q jobM0).urgent) := hju
      have j1 : w.cell? ⟨jb, 1, none⟩ = some (.int .i64 js) := by rw [blk_cell hjk, hjs]; rfl
      have j5 : w.cell? ⟨jb, 5, none⟩ = some (.bool ju) := by rw [blk_cell hjk, hju]; rfl
      have jf : ∀ z, w.frozen? ⟨jb, z, none⟩ = false := fun z => blk_free hjk
      have hjbl := blk_lt hjk
      obtain ⟨curw, hwb, _⟩ := owns_row hWow
      have e1 : rb ≠ wg := blk_ne h.blk hwb (by decide)
      have e2 : jb ≠ wg := blk_ne hjk hwb (by decide)
      have e3 : jg ≠ wg := fun e => own_types h.jobs h.work (by decide) (k := jg) (by rw [hjv]; rfl) (by rw [e, hwv]; rfl)
      have e4 : rb ≠ jb := blk_ne h.blk hjk (by decide)
      have hwt : IntKind.i64.wrap ((tk : Int) - 1) = (q : Int) := by rw [IntKind.wrap_i64]; have := hA.bd.1; omega
      have mq : (q : Int) < (d.jobs.length : Int) := by omega
      have mq0 : (0 : Int) ≤ (q : Int) := by omega
      obtain ⟨ua, uc, huv⟩ := owns_form h.urg
      obtain ⟨qa, qc, hqv⟩ := owns_form h.queue
      have c5 : w.cell? ⟨rb, 5, none⟩ = some (.slice qa d.queue.length qc) := by rw [blk_cell h.blk, ← hqv]; rfl
      have c6 : w.cell? ⟨rb, 6, none⟩ = some (.slice ua d.urgent.length uc) := by rw [blk_cell h.blk, ← huv]; rfl
      have bf : ∀ z, w.frozen? ⟨rb, z, none⟩ = false := fun z => blk_free h.blk
      have HV : Hid (v.uv = .slice ua d.urgent.length uc ∧ v.qv = .slice qa d.queue.length qc) := ⟨huv, hqv⟩
      unfold ptrV
      clear h hA hF hwv hwcell htk hin hat hWow hbg hdn hX hX2 hsz hn hq hjv hjc hjk hjb hjs hju huv hqv hwb
      go_enter Tryz.func38, Tryz.ntmps38
      cases ju
      · go_wp2_with (at_builtin; refine stopL ?_)
        refine ⟨?_⟩
        refine name_list (p := fun Y => ∃ X : World, (RD F X rb (DeskM.mk d.c (d.jobs.set q { d.jobs.getD q jobM0 with state := 1 }) d.queue d.urgent (d.workers.set k att0) d.goods) v ∧ Fr F w X ∧ X.heap.size = w.heap.size) ∧ Y = X.alloc (.cells #[.int .i64 (tk : Int)] 3)) HX.out ?_
        rintro Y ⟨X, ⟨hr, hfr, hs⟩, rfl⟩
        rw [← hs]
        have hrow : (X.alloc (.cells #[.int .i64 (tk : Int)] 3)).ownsRow 0 3 1 (.slice qa d.queue.length qc) d.queue.length (d.queue.map natV) := by rw [← HV.out.2]; exact owns_keep hr.queue ((Below.refl _ _).alloc (Nat.le_refl _) _)
        refine wpList_app_row (by rfl) _ _ (by rfl) X.heap.size _ 1 [natV tk] (by rfl) (own_one X tk) _ d.queue.length (d.queue.map natV) (by rfl) hrow (nat_cells _) (by unfold maxLen; have := queue_le HA.out.inv; have := HA.out.bd.1; omega) (by have := queue_le HA.out.inv; have := HA.out.bd.1; omega) (by simp) ?_
        intro v' w' h2 h3
        obtain ⟨g1, g2, g3, g4⟩ := hr.frontQ (n := tk) (fun j hj => HF.out j (by omega)) h2 h3
        rw [HV.out.2] at g1
        obtain ⟨va, vc, rfl⟩ := owns_form h2
        have HZ : Hid (RStep F w rb (d.kill (k : Int)).1 (.int .i64 (d.kill (k : Int)).2) (.returned (.int .i64 0)) (w'.setCell ⟨rb, 5, none⟩ (.slice va (1 + d.queue.length) vc))) := by
          rw [HE.out, if_neg (by rw [← HJu.out]; simp), ← HQ.out.1]
          exact ⟨rfl, _, g3, hfr.trans g4 (fun _ _ h => h)⟩
        clear h2 h3 g3 g4 hrow hr hfr HX
        go_wp2
        go_ret
        exact HZ.out
      · go_wp2_with (at_builtin; refine stopL ?_)
        refine ⟨?_⟩
        refine name_list (p := fun Y => ∃ X : World, (RD F X rb (DeskM.mk d.c (d.jobs.set q { d.jobs.getD q jobM0 with state := 1 }) d.queue d.urgent (d.workers.set k att0) d.goods) v ∧ Fr F w X ∧ X.heap.size = w.heap.size) ∧ Y = X.alloc (.cells #[.int .i64 (tk : Int)] 3)) HX.out ?_
        rintro Y ⟨X, ⟨hr, hfr, hs⟩, rfl⟩
        rw [← hs]
        have hrow : (X.alloc (.cells #[.int .i64 (tk : Int)] 3)).ownsRow 0 3 1 (.slice ua d.urgent.length uc) d.urgent.length (d.urgent.map natV) := by rw [← HV.out.1]; exact owns_keep hr.urg ((Below.refl _ _).alloc (Nat.le_refl _) _)
        refine wpList_app_row (by rfl) _ _ (by rfl) X.heap.size _ 1 [natV tk] (by rfl) (own_one X tk) _ d.urgent.length (d.urgent.map natV) (by rfl) hrow (nat_cells _) (by unfold maxLen; have := urgent_le HA.out.inv; have := HA.out.bd.1; omega) (by have := urgent_le HA.out.inv; have := HA.out.bd.1; omega) (by simp) ?_
        intro v' w' h2 h3
        obtain ⟨g1, g2, g3, g4⟩ := hr.frontU (n := tk) (fun j hj => HF.out j (by omega)) h2 h3
        rw [HV.out.1] at g1
        obtain ⟨va, vc, rfl⟩ := owns_form h2
        have HZ : Hid (RStep F w rb (d.kill (k : Int)).1 (.int .i64 (d.kill (k : Int)).2) (.returned (.int .i64 0)) (w'.setCell ⟨rb, 6, none⟩ (.slice va (1 + d.urgent.length) vc))) := by
          rw [HE.out, if_pos HJu.out.symm, ← HQ.out.1]
          exact ⟨rfl, _, g3, hfr.trans g4 (fun _ _ h => h)⟩
        clear h2 h3 g3 g4 hrow hr hfr HX
        go_wp2
        go_ret
        exact HZ.out
  · have HE : Hid (d.kill i = (d, 6)) := kill_no hin
    unfold ptrV
    clear h hA hF
    rcases (show i < 0 ∨ (¬ i < 0 ∧ (d.c.workers : Int) ≤ i) by omega) with m1 | ⟨m1, m2⟩
    · go_enter Tryz.func38, Tryz.ntmps38
      go_wp2
      go_ret
      rw [HE.out]
      exact ⟨rfl, v, H.out, Fr.refl _ _⟩
    · go_enter Tryz.func38, Tryz.ntmps38
      go_wp2
      go_ret
      rw [HE.out]
      exact ⟨rfl, v, H.out, Fr.refl _ _⟩
end Go.Proofs.YtlbmcdoldnajoaaGreat
