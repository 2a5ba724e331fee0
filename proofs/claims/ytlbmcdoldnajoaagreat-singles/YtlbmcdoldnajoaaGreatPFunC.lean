import Derived.Test.YtlbmcdoldnajoaaGreatPFunA
set_option maxRecDepth 100000
set_option maxHeartbeats 400000
namespace Go.Proofs.YtlbmcdoldnajoaaGreat
open Go.RowKit
attribute [local go_sem ↓] wStM wStR wLdM wLdR wLdK wStK wLdA wStA wLdG wStG wLdW wStW
def Done (o : Nat → Option Nat) (w : World) (b : Nat) (v : PV) (p' : PM) (e : Ending) (w' : World) : Prop := e = .returned (.tuple #[]) ∧ Stp o w b v.ts v.wb p' w'
theorem Stp.same {o : Nat → Option Nat} {w w' : World} {b : Nat} {p : PM} {v : PV} (h : PD o w b p v) (hb : Below w.heap.size w w') : Stp o w b v.ts v.wb p w' := ⟨o, v, h.below hb, Own.refl _ _, Fr.of_below hb, rfl, rfl⟩
theorem wBsG (d : Option Tmp) (x : Array (Nat × Operand)) (ty : TypeId) (ps : String) (af : Array Edge) (gd : Option (Nat × Bool)) (a : Act) (w : World) (K : Act → World → Prop) (Q : Exit → Act → World → Prop) :
    Oper.wp Tryz.prog ⟨d, .buildSlice 72 1 x, ty, ps, af, gd⟩ a w K Q = WOp ⟨d, .buildSlice 72 1 x, ty, ps, af, gd⟩ a w K Q := wop_eq _ _ _ _ _
theorem wp_bs1 {op : Oper} {a : Act} {w : World} {K : Act → World → Prop} {Q : Exit → Act → World → Prop} {T : TypeId} {x : Operand} {u r : Value} {w' : World} (ho : op.op = .buildSlice T 1 #[(0, x)]) (hx : a.eval x = u)
    (hr : (Instr.buildSlice T 1 #[(0, u)]).run Tryz.prog w = .ok r w') (h : K (a.put op.dst r) w') : WOp op a w K Q := by
  constructor
  unfold Oper.wp execOp
  simp only [ho, List.map_toArray, List.map_cons, List.map_nil, hx, hr, Sem.run_bind, Sem.run_pure, Result.andThen_ok]
  exact h
theorem bs_good16 (tk bg nn ms : Nat) (a0 a1 a2 a3 a4 a5 a6 a7 a8 a9 a10 a11 a12 a13 a14 a15 b0 b1 b2 b3 b4 b5 b6 b7 b8 b9 b10 b11 b12 b13 b14 b15 : Bool) (W : World) : (Instr.buildSlice 72 1 #[(0, .agg (knC ⟨⟨tk, bg, [a0, a1, a2, a3, a4, a5, a6, a7, a8, a9, a10, a11, a12, a13, a14, a15], [b0, b1, b2, b3, b4, b5, b6, b7, b8, b9, b10, b11, b12, b13, b14, b15]⟩, nn, ms⟩).toArray)]).run Tryz.prog W = .ok (.slice (some ⟨W.heap.size, 0, none⟩) 1 1) (W.alloc (.cells (knC ⟨⟨tk, bg, [a0, a1, a2, a3, a4, a5, a6, a7, a8, a9, a10, a11, a12, a13, a14, a15], [b0, b1, b2, b3, b4, b5, b6, b7, b8, b9, b10, b11, b12, b13, b14, b15]⟩, nn, ms⟩).toArray 165)) := by kernel_rfl
theorem bs_good (u : KnM) (hu : u.a.ok) (W : World) : (Instr.buildSlice 72 1 #[(0, .agg (knC u).toArray)]).run Tryz.prog W = .ok (.slice (some ⟨W.heap.size, 0, none⟩) 1 1) (W.alloc (.cells (knC u).toArray 165)) := by
  obtain ⟨⟨tk, bg, r, wr⟩, nn, ms⟩ := u
  obtain ⟨h1, h2⟩ := hu
  match r, h1, wr, h2 with
  | [a0, a1, a2, a3, a4, a5, a6, a7, a8, a9, a10, a11, a12, a13, a14, a15], _, [b0, b1, b2, b3, b4, b5, b6, b7, b8, b9, b10, b11, b12, b13, b14, b15], _ => exact bs_good16 ..
theorem Tryz.infoGd : (Tryz.prog.info? 165).map (fun i => (i.zero, i.size, i.bytes)) = some (some (.agg (knC kn0).toArray), 36, 64) := by kernel_rfl
attribute [local go_sem ↓] wBsG
section
variable {o : Nat → Option Nat} {w : World} {b : Nat} {p : PM} {v : PV}
theorem forget_stay (h : PD o w b p v) (n : Nat) (hk : p.known = [] ∨ n < (p.known.getD 0 kn0).number) (hl : p.known.length ≤ 1000000000) :
    Calls Tryz.prog 88 #[.pointer (some ⟨b, 36, none⟩), .int .i64 (n : Int)] w fun e w' => e = .returned (.tuple #[]) ∧ w' = w := by
  obtain ⟨ka, kc, hkv⟩ := owns_form (h.known nX).1
  have c0 := h.cKnown
  rw [hkv] at c0
  by_cases h0 : p.known = []
  · have hn : p.known.length = 0 := by rw [h0]; rfl
    rw [hn] at c0
    clear h hkv hk
    go_enter Tryz.func88, Tryz.ntmps88
    go_wp2
    refine bodyPost_ret (results_none rfl _ _ _) rfl ?_
    exact ⟨rfl, rfl⟩
  · have hk2 : n < (p.known.getD 0 kn0).number := by
      rcases hk with hk | hk
      · exact absurd hk h0
      · exact hk
    have hlen : 0 < p.known.length := List.length_pos_iff.2 h0
    have hh := h.hist
    rw [hkv] at hh
    obtain ⟨g, hka, hg⟩ := hh.some hlen
    subst hka
    have hm : p.known.getD 0 kn0 ∈ p.known := by simp [List.getD, hlen]
    have c1 := (hh.elem hlen).num (hh.ok _ hm)
    generalize (p.known.getD 0 kn0).number = fn at c1 hk2
    have m1 : (n : Int) < (fn : Int) := by omega
    have m2 : ¬ (p.known.length : Int) = 0 := by omega
    have m3 : (0 : Int) < (p.known.length : Int) := by omega
    generalize p.known.length = L at c0 hl m2 m3
    rw [Nat.zero_mul, Nat.zero_add] at c1
    clear h hkv hk hh hm hlen h0
    go_enter Tryz.func88, Tryz.ntmps88
    go_wp2
    refine bodyPost_ret (results_none rfl _ _ _) rfl ?_
    exact ⟨rfl, rfl⟩
theorem forget_go (h : PD o w b p v) (n : Nat) (hk : ¬ (p.known = [] ∨ n < (p.known.getD 0 kn0).number)) (hl : p.known.length ≤ 1000000000) :
    Calls Tryz.prog 88 #[.pointer (some ⟨b, 36, none⟩), .int .i64 (n : Int)] w fun e w' => Done o w b v { p with known := p.known.filter fun u => decide (n < u.number) } e w' := by
  obtain ⟨ka, kc, hkv⟩ := owns_form (h.known nX).1
  have c0 := h.cKnown
  rw [hkv] at c0
  have h0 : ¬ p.known = [] := fun e => hk (Or.inl e)
  have hk2 : ¬ n < (p.known.getD 0 kn0).number := fun e => hk (Or.inr e)
  have hlen : 0 < p.known.length := List.length_pos_iff.2 h0
  have hh := h.hist
  rw [hkv] at hh
  obtain ⟨g, hka, hg⟩ := hh.some hlen
  subst hka
  have hm : p.known.getD 0 kn0 ∈ p.known := by simp [List.getD, hlen]
  have c1 := (hh.elem hlen).num (hh.ok _ hm)
  generalize (p.known.getD 0 kn0).number = fn at c1 hk2
  have m1 : ¬ (n : Int) < (fn : Int) := by omega
  have m2 : ¬ (p.known.length : Int) = 0 := by omega
  have m3 : (0 : Int) < (p.known.length : Int) := by omega
  obtain ⟨L, hL⟩ : ∃ L, L = p.known.length := ⟨_, rfl⟩
  have HLe : Hid (L = p.known.length) := hL
  rw [← hL] at c0 hl m2 m3
  rw [Nat.zero_mul, Nat.zero_add] at c1
  have H : Hid (PD o w b p v) := h
  have HH : Hid (HistAt w b 36 (.slice (some ⟨g, 0, none⟩) p.known.length kc) p.known) := hh
  have hlt := h.lt
  clear h hkv hk hh hm hlen h0 hL
  go_enter Tryz.func88, Tryz.ntmps88
  obtain ⟨i0, hi, hz0, hz1, hz2⟩ := info_parts Tryz.infoGd
  go_wp2
  go_loopw [4, 30] (fun rv i wr => ∃ j : Nat, j ≤ L ∧ i = .int .i64 j ∧ wr.ownsRow w.heap.size 165 36 rv ((p.known.take j).filter fun u => decide (n < u.number)).length (knCells ((p.known.take j).filter fun u => decide (n < u.number))) ∧ Below w.heap.size w wr) (fun _ i _ => L - (intOf i).toNat)
  case atStart => exact ⟨0, Nat.zero_le _, rfl, ⟨rfl, Or.inr ⟨w.heap.size, 0, #[], rfl, Nat.le_refl _, heap_alloc_new _ _, Nat.le_refl _, Nat.zero_le _, rfl, rfl⟩⟩, (Below.refl _ _).alloc (Nat.le_refl _) _⟩
  case round =>
    obtain ⟨j, hj, rfl, hk1, hk2⟩ := hrel
    obtain ⟨fl, hfl⟩ : ∃ fl, fl = ((p.known.take j).filter fun u => decide (n < u.number)) := ⟨_, rfl⟩
    rw [← hfl] at hk1
    have HFL : Hid (fl = ((p.known.take j).filter fun u => decide (n < u.number))) := hfl
    have hfll : fl.length ≤ j := by
      have h1 := List.length_filter_le (fun u : KnM => decide (n < u.number)) (p.known.take j)
      have h2 : (p.known.take j).length ≤ j := by simp; omega
      rw [hfl]; omega
    have HR : Hid (wr.ownsRow w.heap.size 165 36 u4 fl.length (knCells fl) ∧ Below w.heap.size w wr) := ⟨hk1, hk2⟩
    clear hk1 hk2 hfl
    by_cases hlt' : j < L
    · have hjl : j < p.known.length := by rw [← HLe.out]; exact hlt'
      have m4 : (j : Int) < (L : Int) := by omega
      have m0 : (0 : Int) ≤ (j : Int) := by omega
      obtain ⟨u, hu⟩ : ∃ u, u = p.known.getD j kn0 := ⟨_, rfl⟩
      have hmem : u ∈ p.known := by rw [hu]; simp [List.getD, hjl]
      have hok : u.a.ok := HH.out.ok u hmem
      have HE : Hid (KnAt wr g (j * 36) u) := by
        have := (HH.out.below HR.out.2).elem hjl
        rw [← hu] at this
        exact this
      have HFS : Hid (((p.known.take (j + 1)).filter fun u => decide (n < u.number)) = fl ++ if n < u.number then [u] else []) := by
        show _ = _
        have e : p.known[j] = u := by rw [hu]; simp [List.getD, hjl]
        rw [HFL.out, List.take_succ_eq_append_getElem hjl, List.filter_append, e]
        congr 1
        by_cases hx : n < u.number <;> simp [hx]
      clear hu
      go_wp2
      refine wp_ldN (T := 165) g (j * 36) (by rfl) (by rfl) (by exact HE.out) (by exact Tryz.underlying165) (by rfl) (by rw [Tryz.sizeG, knC_len hok]) ?_
      obtain ⟨cu, hcu⟩ : ∃ cu, cu = (knC u).toArray := ⟨_, rfl⟩
      have HCU : Hid (cu = (knC u).toArray) := hcu
      rw [← hcu]
      clear hcu
      go_wp2
      refine wp_stN (T := 165) wr.heap.size (by rfl) (by rfl) (by rfl) (by exact heap_alloc_new _ _) (by rw [HCU.out, Tryz.sizeG]; simp [knC_len hok]) (by rw [HCU.out]; simp [knC_len hok]) (by rw [HCU.out]; exact knC_one u) ?_
      rintro W1 hW1 hF1
      have hs := HR.out.2.size
      have hW1s : wr.heap.size < W1.heap.size := by have := hF1.size; simp at this; omega
      have HS : Hid (KnBlk W1 wr.heap.size u ∧ W1.ownsRow w.heap.size 165 36 u4 fl.length (knCells fl) ∧ Below w.heap.size w W1) := by
        refine ⟨by rw [HCU.out] at hW1; exact hW1, owns_fr (owns_keep HR.out.1 ((Below.refl _ wr).alloc (Nat.le_refl _) _)) hF1 (fun k hk => ?_), HR.out.2.trans (((Below.refl _ wr).alloc hs _).trans (hF1.below (by omega) (by simp; omega)))⟩
        have := (owns_lt HR.out.1 hk).2
        omega
      have cn := HS.out.1.at.num hok
      rw [Nat.zero_add] at cn
      clear hW1 hF1
      by_cases hx : n < u.number
      · have m5 : (n : Int) < (u.number : Int) := by omega
        go_wp2
        refine wp_ldN (T := 165) wr.heap.size 0 (by rfl) (by rfl) (by exact HS.out.1.at) (by exact Tryz.underlying165) (by rfl) (by rw [Tryz.sizeG, knC_len hok]) ?_
        go_wp2
        refine wp_bs1 (T := 72) (by rfl) (by rfl) (by exact bs_good u hok _) ?_
        rw [← HCU.out]
        go_wp2_with (at_builtin; refine wpList_append_lies _ (by rfl) _ _ 72 (by rfl) w.heap.size 165 i0 _ 36 64 Tryz.underlying72 hi hz0 hz1 hz2 (by rfl) (by decide) _ _ _ (by rfl) (HS.out.2.1.alloc _) ⟨W1.heap.size, 0, none⟩ 1 1 (knC u) (by rfl) ?_ ?_ ?_ (by decide) ?_ ?_ ?_ _ (by rfl) ?_)
        · rw [knC_len hok]
        · rw [HCU.out]; exact World.news_of_block (heap_alloc_new _ _)
        · intro x hx; exact Array.all_eq_true_iff_forall_mem.1 (knC_one u) x (by simpa using hx)
        · unfold maxLen; omega
        · omega
        · simp; omega
        · intro g1 cap1 w2 hown2 hgrow2 hat hlt2
          have HO2 : Hid (w2.ownsRow w.heap.size 165 36 (.slice (some ⟨g1, 0, none⟩) (fl.length + 1) cap1) ((p.known.take (j + 1)).filter fun u => decide (n < u.number)).length (knCells ((p.known.take (j + 1)).filter fun u => decide (n < u.number)))) := by
            rw [HFS.out, if_pos hx, List.length_append]
            have e : knCells (fl ++ [u]) = knCells fl ++ knC u := by simp [knCells]
            rw [e]
            exact hown2
          have HB2 : Hid (Below w.heap.size w w2) := (HS.out.2.2.alloc HS.out.2.2.size _).grown hgrow2 (by simp; omega) (fun k hk => owns_ge HR.out.1 hk)
          clear hown2 hgrow2 hat hlt2
          go_wp2
          go_roundw
          case rel => exact ⟨j + 1, by omega, by go_num, HO2.out, HB2.out⟩
          case measure => simp [intOf]; omega
      · have m5 : ¬ (n : Int) < (u.number : Int) := by omega
        go_wp2
        go_roundw
        case rel => exact ⟨j + 1, by omega, by go_num, by rw [HFS.out, if_neg hx, List.append_nil]; exact HS.out.2.1, HS.out.2.2⟩
        case measure => simp [intOf]; omega
    · obtain rfl : j = L := by omega
      have hfe : fl = p.known.filter fun u => decide (n < u.number) := by rw [HFL.out, HLe.out, List.take_length]
      obtain ⟨ra, rc, hrv⟩ := owns_form HR.out.1
      obtain ⟨H1, H2⟩ := H.out.setKnown (own_grow w o 4) (w1 := wr) (Fr.of_below HR.out.2) (x := u4) (l := fl) ⟨owns_base HR.out.1 (Nat.zero_le _), fun k hk => grow_new (owns_ge HR.out.1 hk)⟩ (fun u hu => H.out.kl u (by rw [hfe] at hu; exact (List.mem_filter.1 hu).1))
      rw [hfe] at H1
      have HX : Hid (Stp o w b v.ts v.wb { p with known := p.known.filter fun u => decide (n < u.number) } (wr.setCell ⟨b, 37, none⟩ u4)) := ⟨_, _, H1, own_grow w o 4, H2, rfl, rfl⟩
      clear H1 H2 hfe
      subst hrv
      have c5 : wr.cell? ⟨b, 37, none⟩ = some (.slice (some ⟨g, 0, none⟩) j kc) := (HR.out.2.cell (p := ⟨b, 37, none⟩) hlt).trans c0
      have f5 : wr.frozen? ⟨b, 37, none⟩ = false := by rw [World.frozen?_of_block (w := w) (HR.out.2.block _ hlt)]; exact H.out.free _
      go_wp2
      go_end0
      exact ⟨rfl, HX.out⟩
theorem forget_any (h : PD o w b p v) (n : Nat) (hl : p.known.length ≤ 1000000000) :
    Calls Tryz.prog 88 #[.pointer (some ⟨b, 36, none⟩), .int .i64 (n : Int)] w fun e w' => Done o w b v { p with known := forgetK n p.known } e w' := by
  by_cases hk : p.known = [] ∨ n < (p.known.getD 0 kn0).number
  · refine (forget_stay h n hk hl).mono ?_
    rintro e w' ⟨rfl, rfl⟩
    have e0 : { p with known := forgetK n p.known } = p := by rw [forgetK, if_pos hk]
    rw [e0]
    exact ⟨rfl, Stp.same h (Below.refl _ _)⟩
  · refine (forget_go h n hk hl).mono ?_
    rintro e w' h
    rw [forgetK, if_neg hk]
    exact h
end
end Go.Proofs.YtlbmcdoldnajoaaGreat
namespace Go.Proofs.YtlbmcdoldnajoaaGreat
open Go.RowKit
attribute [local go_sem ↓] wStM wStR wLdM wLdR wLdK wStK wLdA wStA wLdG wStG wLdW wStW
theorem setCells_blk {b : Nat} {t : TypeId} {fr : Nat × Nat} {post : List Value} : ∀ (vs cs pre : List Value) (w : World), cs.length = vs.length → w.heap[b]? = some (.cells (pre ++ cs ++ post).toArray t fr) → (w.setCells b pre.length vs).heap[b]? = some (.cells (pre ++ vs ++ post).toArray t fr)
  | [], [], pre, w, _, h => h
  | [], c :: cs, pre, w, hl, _ => by simp at hl
  | v :: vs, [], pre, w, hl, _ => by simp at hl
  | v :: vs, c :: cs, pre, w, hl, h => by
    have h1 : (w.setCell ⟨b, pre.length, none⟩ v).heap[b]? = some (.cells ((pre ++ [v]) ++ cs ++ post).toArray t fr) := by
      rw [blk_set h, List.setIfInBounds_toArray]
      simp
    have := setCells_blk vs cs (pre ++ [v]) _ (by simpa using hl) h1
    rw [World.setCells]
    simpa using this
theorem setCells_fr {b : Nat} : ∀ (vs : List Value) (o : Nat) (w : World), Fr (fun k => k = b) w (w.setCells b o vs)
  | [], _, w => Fr.refl _ w
  | v :: vs, o, w => by
    rw [World.setCells]
    exact ((Fr.refl (fun k => k = b) w).setCell (p := ⟨b, o, none⟩) (fun _ => rfl) v).trans (setCells_fr vs (o + 1) _) (fun _ _ h => h)
theorem wp_stM {op : Oper} {a : Act} {w : World} {K : Act → World → Prop} {Q : Exit → Act → World → Prop} {T t : TypeId} {x y : Operand} (b off : Nat) (pre cs post : List Value) {c' : Array Value} (ho : op.op = .store T x y)
    (hx : a.eval x = .pointer (some ⟨b, off, none⟩)) (hy : a.eval y = .agg c') (hb : w.heap[b]? = some (.cells (pre ++ cs ++ post).toArray t (0, 0))) (hp : pre.length = off) (hl : cs.length = c'.size) (hi : (Tryz.prog.info? T).map (·.size) = some c'.size) (h1 : c'.all (·.oneCell') = true)
    (h : ∀ w', w'.heap[b]? = some (.cells (pre ++ c'.toList ++ post).toArray t (0, 0)) → Fr (fun k => k = b) w w' → K (a.put op.dst undef) w') : WOp op a w K Q := by
  refine ⟨wp_store_mid T x y ho b off c' hx hy (fun j hj => ⟨?_, blk_free hb⟩) hi h1 (h _ ?_ (setCells_fr _ _ _))⟩
  · rw [blk_cell hb, List.getElem?_toArray, List.getElem?_eq_getElem (by simp; omega)]
    rfl
  · rw [← hp]
    exact setCells_blk _ cs pre w (by simpa using hl) hb
section
variable {o : Nat → Option Nat} {w : World} {b : Nat} {p : PM} {v : PV}
theorem leastK_take {l : List WkM} {j : Nat} (hj : j < l.length) (n : Nat) : leastK (l.take (j + 1)) n = (let a := l.getD j wk0; let m := leastK (l.take j) n; if a.ticket ≠ 0 ∧ a.beg < m then a.beg else m) := by
  have e : l.getD j wk0 = l[j] := by simp [List.getD, hj]
  have app : ∀ (l1 l2 : List WkM) (n : Nat), leastK (l1 ++ l2) n = leastK l2 (leastK l1 n) := fun l1 => by
    induction l1 with
    | nil => intro l2 n; rfl
    | cons a r ih => intro l2 n; exact ih l2 _
  rw [List.take_succ_eq_append_getElem hj, app, e]
  rfl
theorem wk_zero (ts : List Nat) : Tryz.zeroCells140.toList = wkC ts wk0 nilV := by kernel_rfl
theorem rest_any (h : PD o w b p v) {i : Nat} (hi : i < p.workers.length) (hl : p.known.length ≤ 1000000000) (hwl : p.workers.length ≤ 1000) :
    Calls Tryz.prog 68 #[ptrV b, .pointer (some ⟨v.wb, i * 74, none⟩)] w fun e w' => Done o w b v (p.rest i) e w' := by
  have H : Hid (PD o w b p v) := h
  have HL : Hid (p.known.length ≤ 1000000000 ∧ p.workers.length ≤ 1000) := ⟨hl, hwl⟩
  unfold ptrV
  clear h hl hwl
  go_enter Tryz.func68, Tryz.ntmps68
  go_wp2
  refine wp_stM (T := 140) v.wb (i * 74) _ _ _ (by rfl) (by rfl) (by rfl) (by exact H.out.wblk hi) (by exact H.out.preLen hi) (by rw [wkC_len _ (H.out.wkOk hi)]; rfl) (by exact Tryz.sizeW) (by kernel_rfl) ?_
  rintro W1 hW1 hF1
  rw [wk_zero v.ts] at hW1
  obtain ⟨q, hq⟩ : ∃ q : PM, q = { p with workers := p.workers.set i wk0 } := ⟨_, rfl⟩
  obtain ⟨v1, hv1⟩ : ∃ v1 : PV, v1 = { v with rt := v.rt.set i nilV } := ⟨_, rfl⟩
  have HP1 : Hid (PD o W1 b q v1 ∧ Fr (Mine o) w W1 ∧ v1.ts = v.ts ∧ v1.wb = v.wb ∧ q.workers.length ≤ 1000 ∧ q.known.length ≤ 1000000000) := by
    have := H.out.setWk (Own.refl w o) hi (hF1.mono (fun k _ e => Or.inl e)) (a := wk0) (x := nilV) ⟨rfl, rfl⟩ hW1 ⟨World.ownsRow_nil _ _ _ _, fun k hk => by cases hk⟩
    subst hq hv1
    exact ⟨this.1, this.2, rfl, rfl, by simpa using HL.out.2, HL.out.1⟩
  have HQ : Hid (p.rest i = { q with known := forgetK (leastK q.workers q.count) q.known }) := by subst hq; rfl
  clear hW1 hF1 hq hv1
  go_wp2_with fail
  refine (count_pd HP1.out.1).mono ?_
  rintro e W2 ⟨rfl, hW⟩
  obtain rfl := hW.symm
  clear hW
  have c0 := HP1.out.1.cWork
  obtain ⟨n, hn⟩ : ∃ n, n = q.workers.length := ⟨_, rfl⟩
  have HN : Hid (n = q.workers.length) := hn
  have hn1 : n ≤ 1000 := by rw [hn]; exact HP1.out.2.2.2.2.1
  rw [← hn] at c0
  clear hn
  go_wp2
  go_loopw [4, 19] (fun lv i wr => ∃ j : Nat, j ≤ n ∧ i = .int .i64 j ∧ lv = .int .i64 (leastK (q.workers.take j) q.count : Nat) ∧ Below W1.heap.size W1 wr) (fun _ i _ => n - (intOf i).toNat)
  case atStart => exact ⟨0, Nat.zero_le _, rfl, rfl, Below.refl _ _⟩
  case round =>
    obtain ⟨j, hj, rfl, rfl, hk2⟩ := hrel
    have HR : Hid (Below W1.heap.size W1 wr) := hk2
    clear hk2
    by_cases hlt : j < n
    · have hjl : j < q.workers.length := by rw [← HN.out]; exact hlt
      have m1 : (j : Int) < (n : Int) := by omega
      have m0 : (0 : Int) ≤ (j : Int) := by omega
      obtain ⟨a, ha⟩ : ∃ a, a = q.wk j := ⟨_, rfl⟩
      have hok : a.ok := by rw [ha]; exact HP1.out.1.wkOk hjl
      obtain ⟨cl, hcl⟩ : ∃ cl, cl = wkC v1.ts a (v1.rt.getD j nilV) := ⟨_, rfl⟩
      have HCL : Hid (cl.length = 74 ∧ cl.toArray.all (·.oneCell') = true ∧ cl[0]? = some (tkO v1.ts a.ticket) ∧ cl[1]? = some (.int .i64 (a.beg : Int))) := by
        rw [hcl]
        exact ⟨wkC_len _ hok _, wkC_one _ _ (by obtain ⟨ao, cap, h⟩ := owns_form (HP1.out.1.rtold j hjl nX).1; exact ⟨_, _, _, h⟩), rfl, rfl⟩
      have HE : Hid (wr.rangeAt v1.wb (j * 74) cl) := by
        have := (HP1.out.1.below HR.out).wrange hjl
        rw [hcl, ha]
        exact this
      have HA : Hid (a = q.wk j) := ha
      clear ha hcl
      go_wp2
      refine wp_ldN (T := 140) v1.wb (j * 74) (by rfl) (by rfl) (by exact HE.out) (by exact Tryz.underlying140) (by rfl) (by rw [Tryz.sizeW, HCL.out.1]) ?_
      obtain ⟨cu, hcu⟩ : ∃ cu, cu = cl.toArray := ⟨_, rfl⟩
      have HCU : Hid (cu = cl.toArray) := hcu
      rw [← hcu]
      clear hcu
      go_wp2
      refine wp_stN (T := 140) wr.heap.size (by rfl) (by rfl) (by rfl) (by exact heap_alloc_new _ _) (by rw [HCU.out, Tryz.sizeW]; simp [HCL.out.1]) (by rw [HCU.out]; simp [HCL.out.1]) (by rw [HCU.out]; exact HCL.out.2.1) ?_
      rintro X1 hX1 hF1
      have c2 : X1.cell? ⟨wr.heap.size, 0, none⟩ = some (tkO v1.ts a.ticket) := by rw [blk_cell hX1, HCU.out, List.getElem?_toArray]; exact HCL.out.2.2.1
      have c3 : X1.cell? ⟨wr.heap.size, 1, none⟩ = some (.int .i64 (a.beg : Int)) := by rw [blk_cell hX1, HCU.out, List.getElem?_toArray]; exact HCL.out.2.2.2
      have HB1 : Hid (Below W1.heap.size W1 X1) := by
        have hs := HR.out.size
        exact (HR.out).trans (((Below.refl _ wr).alloc hs _).trans (hF1.below (by omega) (by simp; omega)))
      clear hX1 hF1
      obtain ⟨lm, hlm⟩ : ∃ lm, lm = leastK (q.workers.take j) q.count := ⟨_, rfl⟩
      have HLM : Hid (leastK (q.workers.take (j + 1)) q.count = if a.ticket ≠ 0 ∧ a.beg < lm then a.beg else lm) := by
        show _ = _
        rw [leastK_take hjl, hlm]
        have := HA.out
        unfold PM.wk at this
        rw [← this]
      rw [← hlm]
      clear hlm
      by_cases hz : a.ticket = 0
      · have e0 : tkO v1.ts a.ticket = .pointer none := by rw [tkO, if_pos hz]
        rw [e0] at c2
        go_wp2
        go_roundw
        case rel => exact ⟨j + 1, by omega, by go_num, by rw [HLM.out, if_neg (fun h => h.1 hz)], HB1.out⟩
        case measure => simp [intOf]; omega
      · have e0 : tkO v1.ts a.ticket = .pointer (some ⟨v1.ts.getD (a.ticket - 1) 0, 0, none⟩) := by rw [tkO, if_neg hz]; rfl
        rw [e0] at c2
        by_cases hbg : a.beg < lm
        · have m5 : (a.beg : Int) < (lm : Int) := by omega
          go_wp2
          go_roundw
          case rel => exact ⟨j + 1, by omega, by go_num, by rw [HLM.out, if_pos ⟨hz, hbg⟩], HB1.out⟩
          case measure => simp [intOf]; omega
        · have m5 : ¬ (a.beg : Int) < (lm : Int) := by omega
          go_wp2
          go_roundw
          case rel => exact ⟨j + 1, by omega, by go_num, by rw [HLM.out, if_neg (fun h => hbg h.2)], HB1.out⟩
          case measure => simp [intOf]; omega
    · obtain rfl : j = n := by omega
      have e1 : leastK (q.workers.take j) q.count = leastK q.workers q.count := by rw [HN.out, List.take_length]
      rw [e1]
      clear e1
      go_wp2_with fail
      refine (forget_any (HP1.out.1.below HR.out) (leastK q.workers q.count) HP1.out.2.2.2.2.2).mono ?_
      rintro e W3 ⟨rfl, o3, v3, g1, g2, g3, g4, g5⟩
      have HX : Hid (Stp o w b v.ts v.wb (p.rest i) W3) := by
        rw [HQ.out]
        have f1 : Fr (Mine o) w wr := HP1.out.2.1.trans (Fr.of_below (S := Mine o) HR.out) (fun _ _ h => h)
        have hs : w.heap.size ≤ wr.heap.size := f1.size
        exact ⟨o3, v3, g1, (fun k hk => g2 k (by omega)), f1.trans g3 (fun _ _ h => h), g4.trans HP1.out.2.2.1, g5.trans HP1.out.2.2.2.1⟩
      clear g1 g2 g3 g4 g5
      go_wp2
      go_end0
      exact ⟨rfl, HX.out⟩
end
end Go.Proofs.YtlbmcdoldnajoaaGreat
