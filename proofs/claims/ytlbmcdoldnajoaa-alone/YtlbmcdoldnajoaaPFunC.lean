import Derived.Test.YtlbmcdoldnajoaaPFunB

namespace Go.Proofs.Ytlbmcdoldnajoaa
open Go.RowKit
attribute [local go_sem ↓] wStM wStR wLdM wLdR wLdK wStK wLdA wStA wLdG wStG wLdW wStW
theorem setCells_blk {b : Nat} {t : TypeId} {fr : Nat × Nat} {post : List Value} : ∀ (vs cs pre : List Value) (w : World), cs.length = vs.length → w.heap[b]? = some (.cells (pre ++ cs ++ post).toArray t fr) → (w.setCells b pre.length vs).heap[b]? = some (.cells (pre ++ vs ++ post).toArray t fr)
  | [], [], pre, w, _, h => h
  | [], c :: cs, pre, w, hl, _ => by simp at hl
  | v :: vs, [], pre, w, hl, _ => by simp at hl
  | v :: vs, c :: cs, pre, w, hl, h => by
    have h1 : (w.setCell ⟨b, pre.length, none⟩ v).heap[b]? = some (.cells ((pre ++ [v]) ++ cs ++ post).toArray t fr) := by
      rw [blk_set h, List.setIfInBounds_toArray]
      simp
    have := setCells_blk vs cs (pre ++ [v]) _ (by simpa using hl) h1
    rw [World.setCells]
    simpa using this
theorem setCells_fr {b : Nat} : ∀ (vs : List Value) (o : Nat) (w : World), Fr (fun k => k = b) w (w.setCells b o vs)
  | [], _, w => Fr.refl _ w
  | v :: vs, o, w => by
    rw [World.setCells]
    exact ((Fr.refl (fun k => k = b) w).setCell (p := ⟨b, o, none⟩) (fun _ => rfl) v).trans (setCells_fr vs (o + 1) _) (fun _ _ h => h)
/-- a stretch of a block written -/
theorem wp_stM {op : Oper} {a : Act} {w : World} {K : Act → World → Prop} {Q : Exit → Act → World → Prop} {T t : TypeId} {x y : Operand} (b off : Nat) (pre cs post : List Value) {c' : Array Value} (ho : op.op = .store T x y)
    (hx : a.eval x = .pointer (some ⟨b, off, none⟩)) (hy : a.eval y = .agg c') (hb : w.heap[b]? = some (.cells (pre ++ cs ++ post).toArray t (0, 0))) (hp : pre.length = off) (hl : cs.length = c'.size) (hi : (Try.prog.info? T).map (·.size) = some c'.size) (h1 : c'.all (·.oneCell') = true)
    (h : ∀ w', w'.heap[b]? = some (.cells (pre ++ c'.toList ++ post).toArray t (0, 0)) → Fr (fun k => k = b) w w' → K (a.put op.dst undef) w') : WOp op a w K Q := by
  refine ⟨wp_store_mid T x y ho b off c' hx hy (fun j hj => ⟨?_, blk_free hb⟩) hi h1 (h _ ?_ (setCells_fr _ _ _))⟩
  · rw [blk_cell hb, List.getElem?_toArray, List.getElem?_eq_getElem (by simp; omega)]
    rfl
  · rw [← hp]
    exact setCells_blk _ cs pre w (by simpa using hl) hb
section
variable {o : Nat → Option Nat} {w : World} {b : Nat} {p : PM} {v : PV}
theorem leastK_take {l : List WkM} {j : Nat} (hj : j < l.length) (n : Nat) : leastK (l.take (j + 1)) n = (let a := l.getD j wk0; let m := leastK (l.take j) n; if a.ticket ≠ 0 ∧ a.beg < m then a.beg else m) := by
  have e : l.getD j wk0 = l[j] := by simp [List.getD, hj]
  have app : ∀ (l1 l2 : List WkM) (n : Nat), leastK (l1 ++ l2) n = leastK l2 (leastK l1 n) := fun l1 => by
    induction l1 with
    | nil => intro l2 n; rfl
    | cons a r ih => intro l2 n; exact ih l2 _
  rw [List.take_succ_eq_append_getElem hj, app, e]
  rfl
theorem wk_zero (ts : List Nat) : Try.zeroCells163.toList = wkC ts wk0 nilV := by kernel_rfl
set_option maxRecDepth 100000 in
set_option maxHeartbeats 400000 in
theorem rest_any (h : PD o w b p v) {i : Nat} (hi : i < p.workers.length) (hl : p.known.length ≤ 1000000000) (hwl : p.workers.length ≤ 1000) :
    Calls Try.prog 101 #[ptrV b, .pointer (some ⟨v.wb, i * 74, none⟩)] w fun e w' => Done o w b v (p.rest i) e w' := by
  have H : Hid (PD o w b p v) := h
  have HL : Hid (p.known.length ≤ 1000000000 ∧ p.workers.length ≤ 1000) := ⟨hl, hwl⟩
  unfold ptrV
  clear h hl hwl
  go_enter Try.func101, Try.ntmps101
  go_wp2
  refine wp_stM (T := 163) v.wb (i * 74) _ _ _ (by rfl) (by rfl) (by rfl) (by exact H.out.wblk hi) (by exact H.out.preLen hi) (by rw [wkC_len _ (H.out.wkOk hi)]; rfl) (by exact Try.sizeW) (by kernel_rfl) ?_
  rintro W1 hW1 hF1
  rw [wk_zero v.ts] at hW1
  obtain ⟨q, hq⟩ : ∃ q : PM, q = { p with workers := p.workers.set i wk0 } := ⟨_, rfl⟩
  obtain ⟨v1, hv1⟩ : ∃ v1 : PV, v1 = { v with rt := v.rt.set i nilV } := ⟨_, rfl⟩
  have HP1 : Hid (PD o W1 b q v1 ∧ Fr (Mine o) w W1 ∧ v1.ts = v.ts ∧ v1.wb = v.wb ∧ q.workers.length ≤ 1000 ∧ q.known.length ≤ 1000000000) := by
    have := H.out.setWk (Own.refl w o) hi (hF1.mono (fun k _ e => Or.inl e)) (a := wk0) (x := nilV) ⟨rfl, rfl⟩ hW1 ⟨World.ownsRow_nil _ _ _ _, fun k hk => by cases hk⟩
    subst hq hv1
    exact ⟨this.1, this.2, rfl, rfl, by simpa using HL.out.2, HL.out.1⟩
  have HQ : Hid (p.rest i = { q with known := forgetK (leastK q.workers q.count) q.known }) := by subst hq; rfl
  clear hW1 hF1 hq hv1
  go_wp2_with fail
  refine (count_pd HP1.out.1).mono ?_
  rintro e W2 ⟨rfl, hW⟩
  obtain rfl := hW.symm
  clear hW
  have c0 := HP1.out.1.cWork
  obtain ⟨n, hn⟩ : ∃ n, n = q.workers.length := ⟨_, rfl⟩
  have HN : Hid (n = q.workers.length) := hn
  have hn1 : n ≤ 1000 := by rw [hn]; exact HP1.out.2.2.2.2.1
  rw [← hn] at c0
  clear hn
  go_wp2
  go_loopw [4, 19] (fun lv i wr => ∃ j : Nat, j ≤ n ∧ i = .int .i64 j ∧ lv = .int .i64 (leastK (q.workers.take j) q.count : Nat) ∧ Below W1.heap.size W1 wr) (fun _ i _ => n - (intOf i).toNat)
  case atStart => exact ⟨0, Nat.zero_le _, rfl, rfl, Below.refl _ _⟩
  case round =>
    obtain ⟨j, hj, rfl, rfl, hk2⟩ := hrel
    have HR : Hid (Below W1.heap.size W1 wr) := hk2
    clear hk2
    by_cases hlt : j < n
    · have hjl : j < q.workers.length := by rw [← HN.out]; exact hlt
      have m1 : (j : Int) < (n : Int) := by omega
      have m0 : (0 : Int) ≤ (j : Int) := by omega
      obtain ⟨a, ha⟩ : ∃ a, a = q.wk j := ⟨_, rfl⟩
      have hok : a.ok := by rw [ha]; exact HP1.out.1.wkOk hjl
      obtain ⟨cl, hcl⟩ : ∃ cl, cl = wkC v1.ts a (v1.rt.getD j nilV) := ⟨_, rfl⟩
      have HCL : Hid (cl.length = 74 ∧ cl.toArray.all (·.oneCell') = true ∧ cl[0]? = some (tkO v1.ts a.ticket) ∧ cl[1]? = some (.int .i64 (a.beg : Int))) := by
        rw [hcl]
        exact ⟨wkC_len _ hok _, wkC_one _ _ (by obtain ⟨ao, cap, h⟩ := owns_form (HP1.out.1.rtold j hjl nX).1; exact ⟨_, _, _, h⟩), rfl, rfl⟩
      have HE : Hid (wr.rangeAt v1.wb (j * 74) cl) := by
        have := (HP1.out.1.below HR.out).wrange hjl
        rw [hcl, ha]
        exact this
      have HA : Hid (a = q.wk j) := ha
      clear ha hcl
      go_wp2
      refine wp_ldN (T := 163) v1.wb (j * 74) (by rfl) (by rfl) (by exact HE.out) (by exact Try.underlying163) (by rfl) (by rw [Try.sizeW, HCL.out.1]) ?_
      obtain ⟨cu, hcu⟩ : ∃ cu, cu = cl.toArray := ⟨_, rfl⟩
      have HCU : Hid (cu = cl.toArray) := hcu
      rw [← hcu]
      clear hcu
      go_wp2
      refine wp_stN (T := 163) wr.heap.size (by rfl) (by rfl) (by rfl) (by exact heap_alloc_new _ _) (by rw [HCU.out, Try.sizeW]; simp [HCL.out.1]) (by rw [HCU.out]; simp [HCL.out.1]) (by rw [HCU.out]; exact HCL.out.2.1) ?_
      rintro X1 hX1 hF1
      have c2 : X1.cell? ⟨wr.heap.size, 0, none⟩ = some (tkO v1.ts a.ticket) := by rw [blk_cell hX1, HCU.out, List.getElem?_toArray]; exact HCL.out.2.2.1
      have c3 : X1.cell? ⟨wr.heap.size, 1, none⟩ = some (.int .i64 (a.beg : Int)) := by rw [blk_cell hX1, HCU.out, List.getElem?_toArray]; exact HCL.out.2.2.2
      have HB1 : Hid (Below W1.heap.size W1 X1) := by
        have hs := HR.out.size
        exact (HR.out).trans (((Below.refl _ wr).alloc hs _).trans (hF1.below (by omega) (by simp; omega)))
      clear hX1 hF1
      obtain ⟨lm, hlm⟩ : ∃ lm, lm = leastK (q.workers.take j) q.count := ⟨_, rfl⟩
      have HLM : Hid (leastK (q.workers.take (j + 1)) q.count = if a.ticket ≠ 0 ∧ a.beg < lm then a.beg else lm) := by
        show _ = _
        rw [leastK_take hjl, hlm]
        have := HA.out
        unfold PM.wk at this
        rw [← this]
      rw [← hlm]
      clear hlm
      by_cases hz : a.ticket = 0
      · have e0 : tkO v1.ts a.ticket = .pointer none := by rw [tkO, if_pos hz]
        rw [e0] at c2
        go_wp2
        go_roundw
        case rel => exact ⟨j + 1, by omega, by go_num, by rw [HLM.out, if_neg (fun h => h.1 hz)], HB1.out⟩
        case measure => simp [intOf]; omega
      · have e0 : tkO v1.ts a.ticket = .pointer (some ⟨v1.ts.getD (a.ticket - 1) 0, 0, none⟩) := by rw [tkO, if_neg hz]; rfl
        rw [e0] at c2
        by_cases hbg : a.beg < lm
        · have m5 : (a.beg : Int) < (lm : Int) := by omega
          go_wp2
          go_roundw
          case rel => exact ⟨j + 1, by omega, by go_num, by rw [HLM.out, if_pos ⟨hz, hbg⟩], HB1.out⟩
          case measure => simp [intOf]; omega
        · have m5 : ¬ (a.beg : Int) < (lm : Int) := by omega
          go_wp2
          go_roundw
          case rel => exact ⟨j + 1, by omega, by go_num, by rw [HLM.out, if_neg (fun h => hbg h.2)], HB1.out⟩
          case measure => simp [intOf]; omega
    · obtain rfl : j = n := by omega
      have e1 : leastK (q.workers.take j) q.count = leastK q.workers q.count := by rw [HN.out, List.take_length]
      rw [e1]
      clear e1
      go_wp2_with fail
      refine (forget_any (HP1.out.1.below HR.out) (leastK q.workers q.count) HP1.out.2.2.2.2.2).mono ?_
      rintro e W3 ⟨rfl, o3, v3, g1, g2, g3, g4, g5⟩
      have HX : Hid (Stp o w b v.ts v.wb (p.rest i) W3) := by
        rw [HQ.out]
        have f1 : Fr (Mine o) w wr := HP1.out.2.1.trans (Fr.of_below (S := Mine o) HR.out) (fun _ _ h => h)
        have hs : w.heap.size ≤ wr.heap.size := f1.size
        exact ⟨o3, v3, g1, (fun k hk => g2 k (by omega)), f1.trans g3 (fun _ _ h => h), g4.trans HP1.out.2.2.1, g5.trans HP1.out.2.2.2.1⟩
      clear g1 g2 g3 g4 g5
      go_wp2
      go_end0
      exact ⟨rfl, HX.out⟩
end
end Go.Proofs.Ytlbmcdoldnajoaa
