import Derived.Test.YtlbmcdoldnajoaaGreatPFunD
set_option maxRecDepth 100000
set_option maxHeartbeats 1000000
namespace Go.Proofs.YtlbmcdoldnajoaaGreat
open Go.RowKit
attribute [local go_sem ↓] wStM wStR wLdM wLdR wLdK wStK wLdA wStA wLdG wStG wLdW wStW
section
variable {o : Nat → Option Nat} {w : World} {b : Nat} {p : PM} {v : PV}
theorem bd_good16 (tk bg nn ms : Nat) (a0 a1 a2 a3 a4 a5 a6 a7 a8 a9 a10 a11 a12 a13 a14 a15 b0 b1 b2 b3 b4 b5 b6 b7 b8 b9 b10 b11 b12 b13 b14 b15 : Bool) (W : World) : (Instr.build 165 #[(0, .agg (atC ⟨tk, bg, [a0, a1, a2, a3, a4, a5, a6, a7, a8, a9, a10, a11, a12, a13, a14, a15], [b0, b1, b2, b3, b4, b5, b6, b7, b8, b9, b10, b11, b12, b13, b14, b15]⟩).toArray), (1, .int .i64 (nn : Int)), (2, .int .i64 (ms : Int))]).run Tryz.prog W = .ok (.agg (knC ⟨⟨tk, bg, [a0, a1, a2, a3, a4, a5, a6, a7, a8, a9, a10, a11, a12, a13, a14, a15], [b0, b1, b2, b3, b4, b5, b6, b7, b8, b9, b10, b11, b12, b13, b14, b15]⟩, nn, ms⟩).toArray) W := by kernel_rfl
theorem bd_good (t : AtM) (ht : t.ok) (nn ms : Nat) (W : World) : (Instr.build 165 #[(0, .agg (atC t).toArray), (1, .int .i64 (nn : Int)), (2, .int .i64 (ms : Int))]).run Tryz.prog W = .ok (.agg (knC ⟨t, nn, ms⟩).toArray) W := by
  obtain ⟨tk, bg, r, wr⟩ := t
  obtain ⟨h1, h2⟩ := ht
  match r, h1, wr, h2 with
  | [a0, a1, a2, a3, a4, a5, a6, a7, a8, a9, a10, a11, a12, a13, a14, a15], _, [b0, b1, b2, b3, b4, b5, b6, b7, b8, b9, b10, b11, b12, b13, b14, b15], _ => exact bd_good16 ..
section
variable {ops : Array Oper} {Q : Exit → Act → World → Prop} {S : World → Prop} {md : Region.Mode}
theorem tkS (i : Nat) {oi : Oper} (d : Tmp) (v : Value) {fuel : Nat} {listed : Array Bool} {a : Act} {w : World} (hi : ops[i]? = some oi) (hs : Region.noSelect ops = true) (hf : Region.free md ops listed i = true) (hr : (Region.ready md ops listed).contains i = true) (hg : oi.guard = none) (hd : oi.dst = some d)
    (hy : ∀ w, S w → (execOp a.eval oi).run Tryz.prog w = .ok (.value v) w) (hS : S w) (h : wpAnyH Tryz.prog md ops (NoPanic Q) S fuel (listed.setIfInBounds i true) (a.put (some d) v) w) : wpAnyH Tryz.prog md ops (NoPanic Q) S (fuel + 1) listed a w :=
  wpAnyH_take hi hs hf hr (fun _ _ _ h => h) (Or.inl ⟨by simp [Region.wanted, hg], hy⟩) hS (by rw [hd]; exact h)
theorem op1 (i : Nat) {oi : Oper} {fuel : Nat} {listed : Array Bool} {a : Act} {w : World} (hi : ops[i]? = some oi) (hr : Region.ready md ops listed = [i]) (hg : oi.guard = none)
    (h : ∀ K : Act → World → Prop, (∀ a w, S w → wpAnyH Tryz.prog md ops Q S fuel (listed.setIfInBounds i true) a w → K a w) → Oper.wp Tryz.prog oi a w K Q) : wpAnyH Tryz.prog md ops Q S (fuel + 1) listed a w :=
  wpAnyH_ready (rs := [i]) hr (by simp) (AllReadyH.cons hi (fun K hK => by
    rw [if_pos (by simp [Region.wanted, hg])]
    exact h K (fun a w hS hW => hK.out a w hS (fun _ => hW))) AllReadyH.nil)
theorem op2 (i j : Nat) {oi oj : Oper} {fuel : Nat} {listed : Array Bool} {a : Act} {w : World} (hi : ops[i]? = some oi) (hj : ops[j]? = some oj) (hr : Region.ready md ops listed = [i, j]) (hg : oi.guard = none) (hg' : oj.guard = none)
    (h : ∀ K : Act → World → Prop, (∀ a w, S w → wpAnyH Tryz.prog md ops Q S fuel (listed.setIfInBounds i true) a w → K a w) → Oper.wp Tryz.prog oi a w K Q)
    (h' : ∀ K : Act → World → Prop, (∀ a w, S w → wpAnyH Tryz.prog md ops Q S fuel (listed.setIfInBounds j true) a w → K a w) → Oper.wp Tryz.prog oj a w K Q) : wpAnyH Tryz.prog md ops Q S (fuel + 1) listed a w :=
  wpAnyH_ready (rs := [i, j]) hr (by simp) (AllReadyH.cons hi (fun K hK => by
    rw [if_pos (by simp [Region.wanted, hg])]
    exact h K (fun a w hS hW => hK.out a w hS (fun _ => hW))) (AllReadyH.cons hj (fun K hK => by
    rw [if_pos (by simp [Region.wanted, hg'])]
    exact h' K (fun a w hS hW => hK.out a w hS (fun _ => hW))) AllReadyH.nil))
end
theorem run_ldW {op : Oper} {a : Act} {w : World} {T : TypeId} {x : Operand} (b o : Nat) {cs : List Value} {d : TypeDesc} (ho : op.op = .load T x) (hx : a.eval x = .pointer (some ⟨b, o, none⟩)) (hc : w.rangeAt b o cs) (hu : Tryz.prog.underlying T = some d) (hd : d.isRow = true) (hi : (Tryz.prog.info? T).map (·.size) = some cs.length) : (execOp a.eval op).run Tryz.prog w = .ok (.value (.agg cs.toArray)) w := by
  unfold execOp
  simp only [ho, hx, Instr.loadAt, Instr.sureAddr, Sem.run_bind, Sem.run_pure, Result.andThen_ok, run_loadVar_mid w b o T cs d hc hu hd hi]
theorem run_bd3 {op : Oper} {a : Act} {w : World} {T : TypeId} {x0 x1 x2 : Operand} {u0 u1 u2 r : Value} (ho : op.op = .build T #[(0, x0), (1, x1), (2, x2)]) (h0 : a.eval x0 = u0) (h1 : a.eval x1 = u1) (h2 : a.eval x2 = u2) (hr : (Instr.build T #[(0, u0), (1, u1), (2, u2)]).run Tryz.prog w = .ok r w) : (execOp a.eval op).run Tryz.prog w = .ok (.value r) w := by
  unfold execOp
  simp only [ho, List.map_toArray, List.map_cons, List.map_nil, h0, h1, h2, hr, Sem.run_bind, Sem.run_pure, Result.andThen_ok]
theorem wp_bsG {op : Oper} {a : Act} {w : World} {K : Act → World → Prop} {Q : Exit → Act → World → Prop} {x : Operand} (u : KnM) (hu : u.a.ok) (ho : op.op = .buildSlice 72 1 #[(0, x)]) (hx : a.eval x = .agg (knC u).toArray) {d : Tmp} (hd : op.dst = some d) (h : K (a.put (some d) (.slice (some ⟨w.heap.size, 0, none⟩) 1 1)) (w.alloc (.cells (knC u).toArray 165))) : Oper.wp Tryz.prog op a w K Q :=
  (wp_bs1 ho hx (bs_good u hu w) (by rw [hd]; exact h)).out
theorem wp_ld1 {op : Oper} {a : Act} {w : World} {K : Act → World → Prop} {Q : Exit → Act → World → Prop} {T : TypeId} {x : Operand} (b o : Nat) {u : Value} (ho : op.op = .load T x) (hx : a.eval x = .pointer (some ⟨b, o, none⟩)) {d : Tmp} (hd : op.dst = some d) (hr : (loadVar T ⟨b, o, none⟩).run Tryz.prog w = .ok u w) (h : K (a.put (some d) u) w) : Oper.wp Tryz.prog op a w K Q := by
  unfold Oper.wp execOp
  simp only [ho, hx, Instr.loadAt, Instr.sureAddr, Sem.run_bind, Sem.run_pure, Result.andThen_ok, hr]
  show K (a.put op.dst u) w
  rw [hd]
  exact h
theorem wp_st1 {op : Oper} {a : Act} {w w' : World} {K : Act → World → Prop} {Q : Exit → Act → World → Prop} {T : TypeId} {x y : Operand} (b o : Nat) {u : Value} (ho : op.op = .store T x y) (hx : a.eval x = .pointer (some ⟨b, o, none⟩)) (hy : a.eval y = u) (hd : op.dst = none) (hr : (storeVar T ⟨b, o, none⟩ u).run Tryz.prog w = .ok () w') (h : K a w') : Oper.wp Tryz.prog op a w K Q := by
  unfold Oper.wp execOp
  simp only [ho, hx, hy, Instr.storeAt, Instr.sureAddr, Sem.run_bind, Sem.run_pure, Result.andThen_ok, hr]
  show K (a.put op.dst undef) w'
  rw [hd]
  exact h
theorem run_ldS (w : World) (b i : Nat) (u : Value) (h : w.cell? ⟨b, i, none⟩ = some u) : (loadVar 72 ⟨b, i, none⟩).run Tryz.prog w = .ok u w := by simp [go_sem, h]
theorem run_stS (w : World) (b i : Nat) {x : Value} (ao : Option Addr) (n c : Nat) (h : w.cell? ⟨b, i, none⟩ = some x) (hf : w.frozen? ⟨b, i, none⟩ = false) : (storeVar 72 ⟨b, i, none⟩ (.slice ao n c)).run Tryz.prog w = .ok () (w.setCell ⟨b, i, none⟩ (.slice ao n c)) := by simp [go_sem, h, hf]
theorem row_snoc {o' : Nat → Option Nat} {w' : World} {x : Value} {l : List KnM} {u : KnM} {n : Nat} (hn : n = l.length) (h : w'.ownsRow 0 165 36 x (n + 1) (knCells l ++ knC u)) (ho : ∀ k, x.ownBlock = some k → o' k = some 4) : Row o' 4 w' 165 36 x (l ++ [u]).length (knCells (l ++ [u])) := by
  subst hn
  have e : knCells (l ++ [u]) = knCells l ++ knC u := by simp [knCells]
  rw [e, List.length_append, List.length_singleton]
  exact ⟨h, ho⟩
theorem step_known {op : Oper} {a : Act} {K : Act → World → Prop} {Q : Exit → Act → World → Prop} (s y : Operand) {X : World} {u : KnM} (ho : op.op = .call { callee := .builtin .append, args := #[s, y], argTypes := #[72, 72] })
    (h : PD o X b p v) (hn : p.known.length ≤ 1000000000) (hu : u.a.ok) (hs : a.eval s = v.kv) (hy : a.eval y = .slice (some ⟨X.heap.size, 0, none⟩) 1 1) {d : Tmp} (hd : op.dst = some d)
    (hk : ∀ g cap w', w'.cell? ⟨b, 37, none⟩ = some v.kv → w'.cell? ⟨b, 36, none⟩ = some (.int .i64 (p.count : Int)) → w'.frozen? ⟨b, 37, none⟩ = false → (∀ k i, k < X.heap.size → o k ≠ some 4 → w'.cell? ⟨k, i, none⟩ = X.cell? ⟨k, i, none⟩) →
      Stp o X b v.ts v.wb { p with known := p.known ++ [u] } (w'.setCell ⟨b, 37, none⟩ (.slice (some ⟨g, 0, none⟩) (p.known.length + 1) cap)) → K (a.put (some d) (.slice (some ⟨g, 0, none⟩) (p.known.length + 1) cap)) w') :
    Oper.wp Tryz.prog op a (X.drew.alloc (.cells (knC u).toArray 165)) K Q := by
  obtain ⟨i0, hi, hz0, hz1, hz2⟩ := info_parts Tryz.infoGd
  have hX1 : Below X.heap.size X (X.drew.alloc (.cells (knC u).toArray 165)) := ((Below.refl _ X).drew).alloc (Nat.le_refl _) _
  have hkn := h.known nX
  have hb0 := h.blk nX
  refine wp_append_lies _ s y 72 ho 0 165 i0 _ 36 64 Tryz.underlying72 hi hz0 hz1 hz2 rfl (by decide) v.kv p.known.length (knCells p.known) hs (owns_keep hkn.1 hX1) ⟨X.heap.size, 0, none⟩ 1 1 (knC u) hy (by rw [knC_len hu]) (World.news_of_block (heap_alloc_new X.drew _)) (fun x hx => Array.all_eq_true_iff_forall_mem.1 (knC_one u) x (by simpa using hx)) (by decide) (by unfold maxLen; omega) (by omega) (Nat.zero_le _) _ rfl ?_
  intro g cap w' hown hgrow hat _
  rw [hd]
  have hf : Fr (fun k => o k = some 4) X w' := (((Fr.refl _ X).drew).alloc _).grown hgrow (fun k hk _ => hkn.2 k hk)
  have hnb : ¬ o b = some 4 := by rw [hb0.1]; simp
  have hrow : Row (grow X o 4) 4 w' 165 36 (.slice (some ⟨g, 0, none⟩) (p.known.length + 1) cap) (p.known ++ [u]).length (knCells (p.known ++ [u])) := by
    refine row_snoc (n := p.known.length) (l := p.known) (u := u) rfl hown (fun k hk => ?_)
    obtain rfl : g = k := by injection hk
    rcases hat with hat | hat
    · unfold grow
      by_cases hl : g < X.heap.size
      · rw [if_pos hl]; exact hkn.2 g hat
      · rw [if_neg hl]
    · exact grow_new (by rw [hat]; exact hX1.size)
  obtain ⟨H1, H2⟩ := h.setKnown (own_grow X o 4) hf hrow (fun x hx => by
    rcases List.mem_append.1 hx with hx | hx
    · exact h.kl x hx
    · simp at hx; subst hx; exact hu)
  exact hk g cap w' ((hf.cell h.lt hnb).trans h.cKnown) ((hf.cell h.lt hnb).trans h.cCount) ((hf.frozen h.lt hnb).trans (h.free _)) (fun k i hk h4 => hf.cell hk h4) ⟨_, _, H1, own_grow X o 4, H2, rfl, rfl⟩
theorem add_pd (h : PD o w b p v) (t : AtM) (ht : t.ok) (hl : p.known.length ≤ 1000000000) (hc : p.count ≤ 1000000000) :
    Calls Tryz.prog 104 #[.pointer (some ⟨b, 36, none⟩), .agg (atC t).toArray] w fun e w' => Done o w b v (p.add t) e w' := by
  obtain ⟨o', ho'⟩ : ∃ o' : Nat → Option Nat, o' = fun k => if k < w.heap.size then o k else none := ⟨_, rfl⟩
  have H : Hid (PD o' w b p v) := by rw [ho']; exact h.own (fun k hk => if_pos hk)
  have HO : Hid (o' w.heap.size = none) := by rw [ho']; exact if_neg (by omega)
  have HO' : Hid (o' = fun k => if k < w.heap.size then o k else none) := ho'
  clear ho'
  have HL : Hid (p.known.length ≤ 1000000000) := hl
  obtain ⟨ca, hca⟩ : ∃ ca, ca = (atC t).toArray := ⟨_, rfl⟩
  have HCA : Hid (ca = (atC t).toArray) := hca
  rw [← hca]
  clear hca h
  go_enter Tryz.func104, Tryz.ntmps104
  go_wp2
  have HT0 : Hid (AtBlk (w.alloc (.cells ca 163)) w.heap.size t ∧ Below w.heap.size w (w.alloc (.cells ca 163))) := ⟨by rw [HCA.out]; exact heap_alloc_new _ _, (Below.refl _ _).alloc (Nat.le_refl _) _⟩
  generalize w.alloc (.cells ca 163) = W0 at HT0 ⊢
  refine wp_ldN (T := 163) w.heap.size 0 (by rfl) (by rfl) (by exact HT0.out.1.at) (by exact Tryz.underlying163) (by rfl) (by rw [Tryz.sizeA, atC_len ht]) ?_
  go_wp2_with fail
  refine (missed_any W0 b 36 v.kv p.known t (H.out.hist.below HT0.out.2) ht HL.out).mono ?_
  rintro e W1 ⟨rfl, hb1⟩
  have HT1 : Hid (AtBlk W1 w.heap.size t ∧ Below w.heap.size w W1) := ⟨(hb1.block _ (blk_lt HT0.out.1)).trans HT0.out.1, HT0.out.2.trans (hb1.mono HT0.out.2.size)⟩
  clear hb1
  have HP1 : Hid (PD o' W1 b p v) := H.out.below HT1.out.2
  have c0 := HP1.out.cCount
  have f0 := HP1.out.free 36
  have hwr : IntKind.i64.wrap ((p.count : Int) + 1) = (p.count : Int) + 1 := by rw [IntKind.wrap_i64]; omega
  have HAdd : Hid (p.add t = { p with count := p.count + 1, known := p.known ++ [⟨t, p.count + 1, missedK t p.known⟩] }) := rfl
  generalize missedK t p.known = ms at HAdd ⊢
  go_wp2
  obtain ⟨hP2, hF2⟩ := HP1.out.setCount (p.count + 1)
  rw [show ((p.count + 1 : Nat) : Int) = (p.count : Int) + 1 by omega] at hP2 hF2
  have hb2 : AtBlk (W1.setCell ⟨b, 36, none⟩ (.int .i64 ((p.count : Int) + 1))) w.heap.size t := (blk_other (by have := H.out.lt; omega) _ _).trans HT1.out.1
  refine name_wp (p := fun X => PD o' X b { p with count := p.count + 1 } v ∧ AtBlk X w.heap.size t ∧ Fr (Mine o') w X) ⟨hP2, hb2, (Fr.of_below (S := Mine o') HT1.out.2).trans hF2 (fun _ _ h => h)⟩ ?_
  clear hP2 hF2 hb2 c0 f0 HP1 HT1 HT0
  rintro X ⟨hX1, hX2, hX3⟩
  have HX : Hid (PD o' X b { p with count := p.count + 1 } v ∧ AtBlk X w.heap.size t ∧ Fr (Mine o') w X) := ⟨hX1, hX2, hX3⟩
  clear hX1 hX2 hX3
  obtain ⟨tb, htb⟩ : ∃ tb, tb = w.heap.size := ⟨_, rfl⟩
  have HTB : Hid (tb = w.heap.size) := htb
  rw [← htb] at HO ⊢
  clear htb
  have c1 : X.cell? ⟨b, 36, none⟩ = some (.int .i64 ((p.count : Int) + 1)) := by
    have := HX.out.1.cCount
    rw [show (({ p with count := p.count + 1 } : PM).count : Int) = (p.count : Int) + 1 by show ((p.count + 1 : Nat) : Int) = _; omega] at this
    exact this
  have c2 := HX.out.1.cKnown
  obtain ⟨ka, kc, hkv⟩ := owns_form (HX.out.1.known nX).1
  have HKV : Hid (v.kv = .slice ka p.known.length kc) := hkv
  rw [hkv] at c2
  have hlb := HX.out.1.lt
  have f2 := HX.out.1.free 37
  have hbt : tb ≠ b := by have := HTB.out; have := H.out.lt; omega
  have htl : tb < X.heap.size := by rw [HTB.out]; exact blk_lt HX.out.2.1
  have HR : Hid (X.rangeAt tb 0 (atC t)) := by have := HX.out.2.1.at; rw [← HTB.out] at this; exact this
  clear hkv
  refine wp_region_noPanic (wp_region_held (S := fun w' : World => w'.rangeAt tb 0 (atC t) ∧ w'.cell? ⟨b, 36, none⟩ = some (.int .i64 ((p.count : Int) + 1))) (by kernel_rfl) ?_)
  show wpAnyH _ _ _ _ _ _ _ _ X.drew
  have HS0 : Hid (X.drew.rangeAt tb 0 (atC t) ∧ X.drew.cell? ⟨b, 36, none⟩ = some (.int .i64 ((p.count : Int) + 1))) := ⟨HR.out, c1⟩
  have HSA : Hid ((X.drew.alloc (.cells (knC ⟨t, p.count + 1, ms⟩).toArray 165)).rangeAt tb 0 (atC t) ∧ (X.drew.alloc (.cells (knC ⟨t, p.count + 1, ms⟩).toArray 165)).cell? ⟨b, 36, none⟩ = some (.int .i64 ((p.count : Int) + 1))) := ⟨World.rangeAt_alloc HR.out _, (World.cell?_alloc_lt _ _ _ hlb).trans c1⟩
  refine tkS 0 15 (.pointer (some ⟨b, 36, none⟩)) (by rfl) (by kernel_rfl) (by kernel_rfl) (by kernel_rfl) (by rfl) (by rfl) (fun w hS => by go_simp) HS0.out ?_
  simp only [Act.put, List.setIfInBounds_toArray, List.set_cons_zero, List.set_cons_succ]
  refine tkS 1 16 (.pointer (some ⟨b, 36, none⟩)) (by rfl) (by kernel_rfl) (by kernel_rfl) (by kernel_rfl) (by rfl) (by rfl) (fun w hS => by go_simp) HS0.out ?_
  simp only [Act.put, List.setIfInBounds_toArray, List.set_cons_zero, List.set_cons_succ]
  refine tkS 2 17 (.pointer (some ⟨b, 36, none⟩)) (by rfl) (by kernel_rfl) (by kernel_rfl) (by kernel_rfl) (by rfl) (by rfl) (fun w hS => by go_simp) HS0.out ?_
  simp only [Act.put, List.setIfInBounds_toArray, List.set_cons_zero, List.set_cons_succ]
  refine tkS 3 18 (.pointer (some ⟨b, 37, none⟩)) (by rfl) (by kernel_rfl) (by kernel_rfl) (by kernel_rfl) (by rfl) (by rfl) (fun w hS => by go_simp) HS0.out ?_
  simp only [Act.put, List.setIfInBounds_toArray, List.set_cons_zero, List.set_cons_succ]
  refine tkS 5 20 (.agg (atC t).toArray) (by rfl) (by kernel_rfl) (by kernel_rfl) (by kernel_rfl) (by rfl) (by rfl) (fun w hS => run_ldW tb 0 (by rfl) (by rfl) (by exact hS.1) (by exact Tryz.underlying163) (by rfl) (by rw [Tryz.sizeA, atC_len ht])) HS0.out ?_
  simp only [Act.put, List.setIfInBounds_toArray, List.set_cons_zero, List.set_cons_succ]
  refine tkS 6 21 (.pointer (some ⟨b, 36, none⟩)) (by rfl) (by kernel_rfl) (by kernel_rfl) (by kernel_rfl) (by rfl) (by rfl) (fun w hS => by go_simp) HS0.out ?_
  simp only [Act.put, List.setIfInBounds_toArray, List.set_cons_zero, List.set_cons_succ]
  refine tkS 7 22 (.pointer (some ⟨b, 36, none⟩)) (by rfl) (by kernel_rfl) (by kernel_rfl) (by kernel_rfl) (by rfl) (by rfl) (fun w hS => by go_simp) HS0.out ?_
  simp only [Act.put, List.setIfInBounds_toArray, List.set_cons_zero, List.set_cons_succ]
  refine tkS 8 23 (.pointer (some ⟨b, 36, none⟩)) (by rfl) (by kernel_rfl) (by kernel_rfl) (by kernel_rfl) (by rfl) (by rfl) (fun w hS => by go_simp) HS0.out ?_
  simp only [Act.put, List.setIfInBounds_toArray, List.set_cons_zero, List.set_cons_succ]
  refine tkS 9 24 (.int .i64 ((p.count : Int) + 1)) (by rfl) (by kernel_rfl) (by kernel_rfl) (by kernel_rfl) (by rfl) (by rfl) (fun w hS => by have c := hS.2; go_simp) HS0.out ?_
  simp only [Act.put, List.setIfInBounds_toArray, List.set_cons_zero, List.set_cons_succ]
  refine tkS 10 25 (.int .i64 (ms : Int)) (by rfl) (by kernel_rfl) (by kernel_rfl) (by kernel_rfl) (by rfl) (by rfl) (fun w hS => by go_simp) HS0.out ?_
  simp only [Act.put, List.setIfInBounds_toArray, List.set_cons_zero, List.set_cons_succ]
  refine tkS 11 26 (.agg (knC ⟨t, p.count + 1, ms⟩).toArray) (by rfl) (by kernel_rfl) (by kernel_rfl) (by kernel_rfl) (by rfl) (by rfl) (fun w hS => run_bd3 (by rfl) (by rfl) (by rfl) (by rfl) (by have := bd_good t ht (p.count + 1) ms w; rw [show ((p.count + 1 : Nat) : Int) = (p.count : Int) + 1 by omega] at this; exact this)) HS0.out ?_
  simp only [Act.put, List.setIfInBounds_toArray, List.set_cons_zero, List.set_cons_succ]
  refine op2 4 12 (by rfl) (by rfl) (by kernel_rfl) (by rfl) (by rfl) (fun K hK => ?_) (fun K hK => ?_)
  · skip
    refine wp_ld1 b 37 (by rfl) (by rfl) (by rfl) (run_ldS _ _ _ _ (by exact c2)) ?_
    refine hK _ _ HS0.out ?_
    clear hK K
    simp only [Act.put, List.setIfInBounds_toArray, List.set_cons_zero, List.set_cons_succ]
    refine op1 12 (by rfl) (by kernel_rfl) (by rfl) (fun K hK => ?_)
    refine wp_bsG ⟨t, p.count + 1, ms⟩ ht (by rfl) (by rfl) (by rfl) ?_
    refine hK _ _ HSA.out ?_
    clear hK K
    simp only [Act.put, List.setIfInBounds_toArray, List.set_cons_zero, List.set_cons_succ]
    refine op1 13 (by rfl) (by kernel_rfl) (by rfl) (fun K hK => ?_)
    refine step_known (u := ⟨t, p.count + 1, ms⟩) _ _ (by rfl) HX.out.1 HL.out ht (by exact HKV.out.symm) (by rfl) (by rfl) ?_
    intro g cap w' k1 k2 k3 k5 k4
    have HZ : Hid (Stp o' X b v.ts v.wb { p with count := p.count + 1, known := p.known ++ [⟨t, p.count + 1, ms⟩] } (w'.setCell ⟨b, 37, none⟩ (.slice (some ⟨g, 0, none⟩) (p.known.length + 1) cap))) := k4
    have k2' : w'.cell? ⟨b, 36, none⟩ = some (.int .i64 ((p.count : Int) + 1)) := by
      rw [show (({ p with count := p.count + 1 } : PM).count : Int) = (p.count : Int) + 1 by show ((p.count + 1 : Nat) : Int) = _; omega] at k2
      exact k2
    have HS2 : Hid (w'.rangeAt tb 0 (atC t) ∧ w'.cell? ⟨b, 36, none⟩ = some (.int .i64 ((p.count : Int) + 1))) := ⟨fun q u hq => (k5 tb _ htl (by rw [HO.out]; simp)).trans (HR.out q u hq), k2'⟩
    have HS3 : Hid ((w'.setCell ⟨b, 37, none⟩ (.slice (some ⟨g, 0, none⟩) (p.known.length + 1) cap)).rangeAt tb 0 (atC t) ∧ (w'.setCell ⟨b, 37, none⟩ (.slice (some ⟨g, 0, none⟩) (p.known.length + 1) cap)).cell? ⟨b, 36, none⟩ = some (.int .i64 ((p.count : Int) + 1))) := ⟨fun q u hq => (World.cell?_setCell_other _ _ _ _ (by intro e; injection e with e1; exact hbt e1.symm)).trans (HS2.out.1 q u hq), (World.cell?_setCell_other _ _ _ _ (by intro e; injection e with e1 e2; omega)).trans k2'⟩
    refine hK _ _ HS2.out ?_
    clear hK K k2 k4 k5
    simp only [Act.put, List.setIfInBounds_toArray, List.set_cons_zero, List.set_cons_succ]
    refine tkS 14 29 (.pointer (some ⟨b, 36, none⟩)) (by rfl) (by kernel_rfl) (by kernel_rfl) (by kernel_rfl) (by rfl) (by rfl) (fun w hS => by go_simp) HS2.out ?_
    simp only [Act.put, List.setIfInBounds_toArray, List.set_cons_zero, List.set_cons_succ]
    refine tkS 15 30 (.pointer (some ⟨b, 37, none⟩)) (by rfl) (by kernel_rfl) (by kernel_rfl) (by kernel_rfl) (by rfl) (by rfl) (fun w hS => by go_simp) HS2.out ?_
    simp only [Act.put, List.setIfInBounds_toArray, List.set_cons_zero, List.set_cons_succ]
    refine op1 16 (by rfl) (by kernel_rfl) (by rfl) (fun K hK => ?_)
    refine wp_st1 b 37 (by rfl) (by rfl) (by rfl) (by rfl) (run_stS _ _ _ _ _ _ (by exact k1) (by exact k3)) ?_
    refine hK _ _ HS3.out ?_
    clear hK K
    refine wpAnyH_done (by kernel_rfl) (NoPanic.normal ?_) _
    go_end0
    refine ⟨rfl, ?_⟩
    rw [HAdd.out]
    obtain ⟨o3, v3, g1, g2, g3, g4, g5⟩ := HZ.out
    have hs := HX.out.2.2.size
    exact ⟨o3, v3, g1, fun k hk => (g2 k (by omega)).trans (by rw [HO'.out]; exact if_pos hk), (HX.out.2.2.trans g3 (fun _ _ h => h)).mono (fun k hk hm => by unfold Mine at *; rw [HO'.out] at hm; simp only [hk, if_true] at hm; exact hm), g4, g5⟩
  · skip
    refine wp_bsG ⟨t, p.count + 1, ms⟩ ht (by rfl) (by rfl) (by rfl) ?_
    refine hK _ _ HSA.out ?_
    clear hK K
    simp only [Act.put, List.setIfInBounds_toArray, List.set_cons_zero, List.set_cons_succ]
    refine op1 4 (by rfl) (by kernel_rfl) (by rfl) (fun K hK => ?_)
    refine wp_ld1 b 37 (by rfl) (by rfl) (by rfl) (run_ldS _ _ _ _ (by exact (World.cell?_alloc_lt _ _ _ hlb).trans c2)) ?_
    refine hK _ _ HSA.out ?_
    clear hK K
    simp only [Act.put, List.setIfInBounds_toArray, List.set_cons_zero, List.set_cons_succ]
    refine op1 13 (by rfl) (by kernel_rfl) (by rfl) (fun K hK => ?_)
    refine step_known (u := ⟨t, p.count + 1, ms⟩) _ _ (by rfl) HX.out.1 HL.out ht (by exact HKV.out.symm) (by rfl) (by rfl) ?_
    intro g cap w' k1 k2 k3 k5 k4
    have HZ : Hid (Stp o' X b v.ts v.wb { p with count := p.count + 1, known := p.known ++ [⟨t, p.count + 1, ms⟩] } (w'.setCell ⟨b, 37, none⟩ (.slice (some ⟨g, 0, none⟩) (p.known.length + 1) cap))) := k4
    have k2' : w'.cell? ⟨b, 36, none⟩ = some (.int .i64 ((p.count : Int) + 1)) := by
      rw [show (({ p with count := p.count + 1 } : PM).count : Int) = (p.count : Int) + 1 by show ((p.count + 1 : Nat) : Int) = _; omega] at k2
      exact k2
    have HS2 : Hid (w'.rangeAt tb 0 (atC t) ∧ w'.cell? ⟨b, 36, none⟩ = some (.int .i64 ((p.count : Int) + 1))) := ⟨fun q u hq => (k5 tb _ htl (by rw [HO.out]; simp)).trans (HR.out q u hq), k2'⟩
    have HS3 : Hid ((w'.setCell ⟨b, 37, none⟩ (.slice (some ⟨g, 0, none⟩) (p.known.length + 1) cap)).rangeAt tb 0 (atC t) ∧ (w'.setCell ⟨b, 37, none⟩ (.slice (some ⟨g, 0, none⟩) (p.known.length + 1) cap)).cell? ⟨b, 36, none⟩ = some (.int .i64 ((p.count : Int) + 1))) := ⟨fun q u hq => (World.cell?_setCell_other _ _ _ _ (by intro e; injection e with e1; exact hbt e1.symm)).trans (HS2.out.1 q u hq), (World.cell?_setCell_other _ _ _ _ (by intro e; injection e with e1 e2; omega)).trans k2'⟩
    refine hK _ _ HS2.out ?_
    clear hK K k2 k4 k5
    simp only [Act.put, List.setIfInBounds_toArray, List.set_cons_zero, List.set_cons_succ]
    refine tkS 14 29 (.pointer (some ⟨b, 36, none⟩)) (by rfl) (by kernel_rfl) (by kernel_rfl) (by kernel_rfl) (by rfl) (by rfl) (fun w hS => by go_simp) HS2.out ?_
    simp only [Act.put, List.setIfInBounds_toArray, List.set_cons_zero, List.set_cons_succ]
    refine tkS 15 30 (.pointer (some ⟨b, 37, none⟩)) (by rfl) (by kernel_rfl) (by kernel_rfl) (by kernel_rfl) (by rfl) (by rfl) (fun w hS => by go_simp) HS2.out ?_
    simp only [Act.put, List.setIfInBounds_toArray, List.set_cons_zero, List.set_cons_succ]
    refine op1 16 (by rfl) (by kernel_rfl) (by rfl) (fun K hK => ?_)
    refine wp_st1 b 37 (by rfl) (by rfl) (by rfl) (by rfl) (run_stS _ _ _ _ _ _ (by exact k1) (by exact k3)) ?_
    refine hK _ _ HS3.out ?_
    clear hK K
    refine wpAnyH_done (by kernel_rfl) (NoPanic.normal ?_) _
    go_end0
    refine ⟨rfl, ?_⟩
    rw [HAdd.out]
    obtain ⟨o3, v3, g1, g2, g3, g4, g5⟩ := HZ.out
    have hs := HX.out.2.2.size
    exact ⟨o3, v3, g1, fun k hk => (g2 k (by omega)).trans (by rw [HO'.out]; exact if_pos hk), (HX.out.2.2.trans g3 (fun _ _ h => h)).mono (fun k hk hm => by unfold Mine at *; rw [HO'.out] at hm; simp only [hk, if_true] at hm; exact hm), g4, g5⟩
end
end Go.Proofs.YtlbmcdoldnajoaaGreat
