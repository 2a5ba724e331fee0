import Derived.Test.YtlbmcdoldnajoaaPFunA

namespace Go.Proofs.Ytlbmcdoldnajoaa
open Go.RowKit
attribute [local go_sem ↓] wStM wStR wLdM wLdR wLdK wStK wLdA wStA wLdG wStG wLdW wStW
/-- what a call of no result leaves -/
def Done (o : Nat → Option Nat) (w : World) (b : Nat) (v : PV) (p' : PM) (e : Ending) (w' : World) : Prop := e = .returned (.tuple #[]) ∧ Stp o w b v.ts v.wb p' w'
theorem Stp.same {o : Nat → Option Nat} {w w' : World} {b : Nat} {p : PM} {v : PV} (h : PD o w b p v) (hb : Below w.heap.size w w') : Stp o w b v.ts v.wb p w' := ⟨o, v, h.below hb, Own.refl _ _, Fr.of_below hb, rfl, rfl⟩
theorem wBsG (d : Option Tmp) (x : Array (Nat × Operand)) (ty : TypeId) (ps : String) (af : Array Edge) (gd : Option (Nat × Bool)) (a : Act) (w : World) (K : Act → World → Prop) (Q : Exit → Act → World → Prop) :
    Oper.wp Try.prog ⟨d, .buildSlice 125 1 x, ty, ps, af, gd⟩ a w K Q = WOp ⟨d, .buildSlice 125 1 x, ty, ps, af, gd⟩ a w K Q := wop_eq _ _ _ _ _
theorem wp_bs1 {op : Oper} {a : Act} {w : World} {K : Act → World → Prop} {Q : Exit → Act → World → Prop} {T : TypeId} {x : Operand} {u r : Value} {w' : World} (ho : op.op = .buildSlice T 1 #[(0, x)]) (hx : a.eval x = u)
    (hr : (Instr.buildSlice T 1 #[(0, u)]).run Try.prog w = .ok r w') (h : K (a.put op.dst r) w') : WOp op a w K Q := by
  constructor
  unfold Oper.wp execOp
  simp only [ho, List.map_toArray, List.map_cons, List.map_nil, hx, hr, Sem.run_bind, Sem.run_pure, Result.andThen_ok]
  exact h
theorem bs_good16 (tk bg nn ms : Nat) (a0 a1 a2 a3 a4 a5 a6 a7 a8 a9 a10 a11 a12 a13 a14 a15 b0 b1 b2 b3 b4 b5 b6 b7 b8 b9 b10 b11 b12 b13 b14 b15 : Bool) (W : World) : (Instr.buildSlice 125 1 #[(0, .agg (knC ⟨⟨tk, bg, [a0, a1, a2, a3, a4, a5, a6, a7, a8, a9, a10, a11, a12, a13, a14, a15], [b0, b1, b2, b3, b4, b5, b6, b7, b8, b9, b10, b11, b12, b13, b14, b15]⟩, nn, ms⟩).toArray)]).run Try.prog W = .ok (.slice (some ⟨W.heap.size, 0, none⟩) 1 1) (W.alloc (.cells (knC ⟨⟨tk, bg, [a0, a1, a2, a3, a4, a5, a6, a7, a8, a9, a10, a11, a12, a13, a14, a15], [b0, b1, b2, b3, b4, b5, b6, b7, b8, b9, b10, b11, b12, b13, b14, b15]⟩, nn, ms⟩).toArray 187)) := by kernel_rfl
theorem bs_good (u : KnM) (hu : u.a.ok) (W : World) : (Instr.buildSlice 125 1 #[(0, .agg (knC u).toArray)]).run Try.prog W = .ok (.slice (some ⟨W.heap.size, 0, none⟩) 1 1) (W.alloc (.cells (knC u).toArray 187)) := by
  obtain ⟨⟨tk, bg, r, wr⟩, nn, ms⟩ := u
  obtain ⟨h1, h2⟩ := hu
  match r, h1, wr, h2 with
  | [a0, a1, a2, a3, a4, a5, a6, a7, a8, a9, a10, a11, a12, a13, a14, a15], _, [b0, b1, b2, b3, b4, b5, b6, b7, b8, b9, b10, b11, b12, b13, b14, b15], _ => exact bs_good16 ..
theorem Try.infoGd : (Try.prog.info? 187).map (fun i => (i.zero, i.size, i.bytes)) = some (some (.agg (knC kn0).toArray), 36, 64) := by kernel_rfl
attribute [local go_sem ↓] wBsG
section
variable {o : Nat → Option Nat} {w : World} {b : Nat} {p : PM} {v : PV}
set_option maxRecDepth 100000 in
set_option maxHeartbeats 400000 in
theorem forget_stay (h : PD o w b p v) (n : Nat) (hk : p.known = [] ∨ n < (p.known.getD 0 kn0).number) (hl : p.known.length ≤ 1000000000) :
    Calls Try.prog 114 #[.pointer (some ⟨b, 36, none⟩), .int .i64 (n : Int)] w fun e w' => e = .returned (.tuple #[]) ∧ w' = w := by
  obtain ⟨ka, kc, hkv⟩ := owns_form (h.known nX).1
  have c0 := h.cKnown
  rw [hkv] at c0
  by_cases h0 : p.known = []
  · have hn : p.known.length = 0 := by rw [h0]; rfl
    rw [hn] at c0
    clear h hkv hk
    go_enter Try.func114, Try.ntmps114
    go_wp2
    refine bodyPost_ret (results_none rfl _ _ _) rfl ?_
    exact ⟨rfl, rfl⟩
  · have hk2 : n < (p.known.getD 0 kn0).number := by
      rcases hk with hk | hk
      · exact absurd hk h0
      · exact hk
    have hlen : 0 < p.known.length := List.length_pos_iff.2 h0
    have hh := h.hist
    rw [hkv] at hh
    obtain ⟨g, hka, hg⟩ := hh.some hlen
    subst hka
    have hm : p.known.getD 0 kn0 ∈ p.known := by simp [List.getD, hlen]
    have c1 := (hh.elem hlen).num (hh.ok _ hm)
    generalize (p.known.getD 0 kn0).number = fn at c1 hk2
    have m1 : (n : Int) < (fn : Int) := by omega
    have m2 : ¬ (p.known.length : Int) = 0 := by omega
    have m3 : (0 : Int) < (p.known.length : Int) := by omega
    generalize p.known.length = L at c0 hl m2 m3
    rw [Nat.zero_mul, Nat.zero_add] at c1
    clear h hkv hk hh hm hlen h0
    go_enter Try.func114, Try.ntmps114
    go_wp2
    refine bodyPost_ret (results_none rfl _ _ _) rfl ?_
    exact ⟨rfl, rfl⟩
set_option maxRecDepth 100000 in
set_option maxHeartbeats 400000 in
theorem forget_go (h : PD o w b p v) (n : Nat) (hk : ¬ (p.known = [] ∨ n < (p.known.getD 0 kn0).number)) (hl : p.known.length ≤ 1000000000) :
    Calls Try.prog 114 #[.pointer (some ⟨b, 36, none⟩), .int .i64 (n : Int)] w fun e w' => Done o w b v { p with known := p.known.filter fun u => decide (n < u.number) } e w' := by
  obtain ⟨ka, kc, hkv⟩ := owns_form (h.known nX).1
  have c0 := h.cKnown
  rw [hkv] at c0
  have h0 : ¬ p.known = [] := fun e => hk (Or.inl e)
  have hk2 : ¬ n < (p.known.getD 0 kn0).number := fun e => hk (Or.inr e)
  have hlen : 0 < p.known.length := List.length_pos_iff.2 h0
  have hh := h.hist
  rw [hkv] at hh
  obtain ⟨g, hka, hg⟩ := hh.some hlen
  subst hka
  have hm : p.known.getD 0 kn0 ∈ p.known := by simp [List.getD, hlen]
  have c1 := (hh.elem hlen).num (hh.ok _ hm)
  generalize (p.known.getD 0 kn0).number = fn at c1 hk2
  have m1 : ¬ (n : Int) < (fn : Int) := by omega
  have m2 : ¬ (p.known.length : Int) = 0 := by omega
  have m3 : (0 : Int) < (p.known.length : Int) := by omega
  obtain ⟨L, hL⟩ : ∃ L, L = p.known.length := ⟨_, rfl⟩
  have HLe : Hid (L = p.known.length) := hL
  rw [← hL] at c0 hl m2 m3
  rw [Nat.zero_mul, Nat.zero_add] at c1
  have H : Hid (PD o w b p v) := h
  have HH : Hid (HistAt w b 36 (.slice (some ⟨g, 0, none⟩) p.known.length kc) p.known) := hh
  have hlt := h.lt
  clear h hkv hk hh hm hlen h0 hL
  go_enter Try.func114, Try.ntmps114
  obtain ⟨i0, hi, hz0, hz1, hz2⟩ := info_parts Try.infoGd
  go_wp2
  go_loopw [4, 30] (fun rv i wr => ∃ j : Nat, j ≤ L ∧ i = .int .i64 j ∧ wr.ownsRow w.heap.size 187 36 rv ((p.known.take j).filter fun u => decide (n < u.number)).length (knCells ((p.known.take j).filter fun u => decide (n < u.number))) ∧ Below w.heap.size w wr) (fun _ i _ => L - (intOf i).toNat)
  case atStart => exact ⟨0, Nat.zero_le _, rfl, ⟨rfl, Or.inr ⟨w.heap.size, 0, #[], rfl, Nat.le_refl _, heap_alloc_new _ _, Nat.le_refl _, Nat.zero_le _, rfl, rfl⟩⟩, (Below.refl _ _).alloc (Nat.le_refl _) _⟩
  case round =>
    obtain ⟨j, hj, rfl, hk1, hk2⟩ := hrel
    obtain ⟨fl, hfl⟩ : ∃ fl, fl = ((p.known.take j).filter fun u => decide (n < u.number)) := ⟨_, rfl⟩
    rw [← hfl] at hk1
    have HFL : Hid (fl = ((p.known.take j).filter fun u => decide (n < u.number))) := hfl
    have hfll : fl.length ≤ j := by
      have h1 := List.length_filter_le (fun u : KnM => decide (n < u.number)) (p.known.take j)
      have h2 : (p.known.take j).length ≤ j := by simp; omega
      rw [hfl]; omega
    have HR : Hid (wr.ownsRow w.heap.size 187 36 u4 fl.length (knCells fl) ∧ Below w.heap.size w wr) := ⟨hk1, hk2⟩
    clear hk1 hk2 hfl
    by_cases hlt' : j < L
    · have hjl : j < p.known.length := by rw [← HLe.out]; exact hlt'
      have m4 : (j : Int) < (L : Int) := by omega
      have m0 : (0 : Int) ≤ (j : Int) := by omega
      obtain ⟨u, hu⟩ : ∃ u, u = p.known.getD j kn0 := ⟨_, rfl⟩
      have hmem : u ∈ p.known := by rw [hu]; simp [List.getD, hjl]
      have hok : u.a.ok := HH.out.ok u hmem
      have HE : Hid (KnAt wr g (j * 36) u) := by
        have := (HH.out.below HR.out.2).elem hjl
        rw [← hu] at this
        exact this
      have HFS : Hid (((p.known.take (j + 1)).filter fun u => decide (n < u.number)) = fl ++ if n < u.number then [u] else []) := by
        show _ = _
        have e : p.known[j] = u := by rw [hu]; simp [List.getD, hjl]
        rw [HFL.out, List.take_succ_eq_append_getElem hjl, List.filter_append, e]
        congr 1
        by_cases hx : n < u.number <;> simp [hx]
      clear hu
      go_wp2
      refine wp_ldN (T := 187) g (j * 36) (by rfl) (by rfl) (by exact HE.out) (by exact Try.underlying187) (by rfl) (by rw [Try.sizeG, knC_len hok]) ?_
      obtain ⟨cu, hcu⟩ : ∃ cu, cu = (knC u).toArray := ⟨_, rfl⟩
      have HCU : Hid (cu = (knC u).toArray) := hcu
      rw [← hcu]
      clear hcu
      go_wp2
      refine wp_stN (T := 187) wr.heap.size (by rfl) (by rfl) (by rfl) (by exact heap_alloc_new _ _) (by rw [HCU.out, Try.sizeG]; simp [knC_len hok]) (by rw [HCU.out]; simp [knC_len hok]) (by rw [HCU.out]; exact knC_one u) ?_
      rintro W1 hW1 hF1
      have hs := HR.out.2.size
      have hW1s : wr.heap.size < W1.heap.size := by have := hF1.size; simp at this; omega
      have HS : Hid (KnBlk W1 wr.heap.size u ∧ W1.ownsRow w.heap.size 187 36 u4 fl.length (knCells fl) ∧ Below w.heap.size w W1) := by
        refine ⟨by rw [HCU.out] at hW1; exact hW1, owns_fr (owns_keep HR.out.1 ((Below.refl _ wr).alloc (Nat.le_refl _) _)) hF1 (fun k hk => ?_), HR.out.2.trans (((Below.refl _ wr).alloc hs _).trans (hF1.below (by omega) (by simp; omega)))⟩
        have := (owns_lt HR.out.1 hk).2
        omega
      have cn := HS.out.1.at.num hok
      rw [Nat.zero_add] at cn
      clear hW1 hF1
      by_cases hx : n < u.number
      · have m5 : (n : Int) < (u.number : Int) := by omega
        go_wp2
        refine wp_ldN (T := 187) wr.heap.size 0 (by rfl) (by rfl) (by exact HS.out.1.at) (by exact Try.underlying187) (by rfl) (by rw [Try.sizeG, knC_len hok]) ?_
        go_wp2
        refine wp_bs1 (T := 125) (by rfl) (by rfl) (by exact bs_good u hok _) ?_
        rw [← HCU.out]
        go_wp2_with (at_builtin; refine wpList_append_lies _ (by rfl) _ _ 125 (by rfl) w.heap.size 187 i0 _ 36 64 Try.underlying125 hi hz0 hz1 hz2 (by rfl) (by decide) _ _ _ (by rfl) (HS.out.2.1.alloc _) ⟨W1.heap.size, 0, none⟩ 1 1 (knC u) (by rfl) ?_ ?_ ?_ (by decide) ?_ ?_ ?_ _ (by rfl) ?_)
        · rw [knC_len hok]
        · rw [HCU.out]; exact World.news_of_block (heap_alloc_new _ _)
        · intro x hx; exact Array.all_eq_true_iff_forall_mem.1 (knC_one u) x (by simpa using hx)
        · unfold maxLen; omega
        · omega
        · simp; omega
        · intro g1 cap1 w2 hown2 hgrow2 hat hlt2
          have HO2 : Hid (w2.ownsRow w.heap.size 187 36 (.slice (some ⟨g1, 0, none⟩) (fl.length + 1) cap1) ((p.known.take (j + 1)).filter fun u => decide (n < u.number)).length (knCells ((p.known.take (j + 1)).filter fun u => decide (n < u.number)))) := by
            rw [HFS.out, if_pos hx, List.length_append]
            have e : knCells (fl ++ [u]) = knCells fl ++ knC u := by simp [knCells]
            rw [e]
            exact hown2
          have HB2 : Hid (Below w.heap.size w w2) := (HS.out.2.2.alloc HS.out.2.2.size _).grown hgrow2 (by simp; omega) (fun k hk => owns_ge HR.out.1 hk)
          clear hown2 hgrow2 hat hlt2
          go_wp2
          go_roundw
          case rel => exact ⟨j + 1, by omega, by go_num, HO2.out, HB2.out⟩
          case measure => simp [intOf]; omega
      · have m5 : ¬ (n : Int) < (u.number : Int) := by omega
        go_wp2
        go_roundw
        case rel => exact ⟨j + 1, by omega, by go_num, by rw [HFS.out, if_neg hx, List.append_nil]; exact HS.out.2.1, HS.out.2.2⟩
        case measure => simp [intOf]; omega
    · obtain rfl : j = L := by omega
      have hfe : fl = p.known.filter fun u => decide (n < u.number) := by rw [HFL.out, HLe.out, List.take_length]
      obtain ⟨ra, rc, hrv⟩ := owns_form HR.out.1
      obtain ⟨H1, H2⟩ := H.out.setKnown (own_grow w o 4) (w1 := wr) (Fr.of_below HR.out.2) (x := u4) (l := fl) ⟨owns_base HR.out.1 (Nat.zero_le _), fun k hk => grow_new (owns_ge HR.out.1 hk)⟩ (fun u hu => H.out.kl u (by rw [hfe] at hu; exact (List.mem_filter.1 hu).1))
      rw [hfe] at H1
      have HX : Hid (Stp o w b v.ts v.wb { p with known := p.known.filter fun u => decide (n < u.number) } (wr.setCell ⟨b, 37, none⟩ u4)) := ⟨_, _, H1, own_grow w o 4, H2, rfl, rfl⟩
      clear H1 H2 hfe
      subst hrv
      have c5 : wr.cell? ⟨b, 37, none⟩ = some (.slice (some ⟨g, 0, none⟩) j kc) := (HR.out.2.cell (p := ⟨b, 37, none⟩) hlt).trans c0
      have f5 : wr.frozen? ⟨b, 37, none⟩ = false := by rw [World.frozen?_of_block (w := w) (HR.out.2.block _ hlt)]; exact H.out.free _
      go_wp2
      go_end0
      exact ⟨rfl, HX.out⟩
theorem forget_any (h : PD o w b p v) (n : Nat) (hl : p.known.length ≤ 1000000000) :
    Calls Try.prog 114 #[.pointer (some ⟨b, 36, none⟩), .int .i64 (n : Int)] w fun e w' => Done o w b v { p with known := forgetK n p.known } e w' := by
  by_cases hk : p.known = [] ∨ n < (p.known.getD 0 kn0).number
  · refine (forget_stay h n hk hl).mono ?_
    rintro e w' ⟨rfl, rfl⟩
    have e0 : { p with known := forgetK n p.known } = p := by rw [forgetK, if_pos hk]
    rw [e0]
    exact ⟨rfl, Stp.same h (Below.refl _ _)⟩
  · refine (forget_go h n hk hl).mono ?_
    rintro e w' h
    rw [forgetK, if_neg hk]
    exact h
end
end Go.Proofs.Ytlbmcdoldnajoaa
