import Derived.Test.YtlbmcdoldnajoaaGreatLawE
set_option maxRecDepth 100000
set_option maxHeartbeats 1000000
namespace Go.Proofs.YtlbmcdoldnajoaaGreat
open Go.RowKit
def ownO (own : Nat → Nat) (x0 x1 x2 x3 N : Nat) (k : Nat) : Nat := if k < x0 then own k else if k < x1 then 1 else if k < x2 then 2 * N + 2 else if k < x3 then 2 * N + 3 else 1
theorem LA.openedL {K : DeskKit} {Inv : DeskM → Prop} {B : Nat} {own : Nat → Nat} {W W1 W2 W3 : World} {x1 pb : Nat} {dv dv' : Value} {one : Bool} {iv pv : Value} {vs ps : List Value} {ds : List DP} {xb yb : Nat} {v : RV} {d0 : DeskM}
    (h : LA K Inv B own W pb dv one iv pv vs ps ds) (hx : W.heap.size ≤ x1) (h1 : x1 ≤ W1.heap.size) (hb1 : Below W.heap.size W W1) (hpd : K.PD (fun k => x1 ≤ k) W1 xb d0) (hb2 : Below W1.heap.size W1 W2) (hrd : RD (fun k => W1.heap.size ≤ k) W2 yb d0 v) (hinv : Inv d0)
    (hF : Fr (fun k => dv.ownBlock = some k) W2 W3) (hrow : W3.ownsRow B 48 1 dv' (ds.length + 1) ((ds.map fun t => ptrV t.p) ++ [ptrV W2.heap.size])) (hnew : ∀ k, dv'.ownBlock = some k → dv.ownBlock = some k ∨ W2.heap.size ≤ k)
    (hpair : W3.heap[W2.heap.size]? = some (.cells #[ptrV xb, ptrV yb] 50 (0, 0))) :
    LA K Inv B (ownO own W.heap.size x1 W1.heap.size W2.heap.size ds.length) (W3.setCell ⟨pb, 0, none⟩ dv') pb dv' one iv pv vs ps (ds ++ [⟨W2.heap.size, xb, yb, d0, v⟩]) := by
  have hb02 : Below W.heap.size W W2 := hb1.trans (hb2.mono hb1.size)
  have s2 := hb2.size
  have s1 := hb1.size
  have sB := h.size
  have e0 : ∀ k, k < W.heap.size → ownO own W.heap.size x1 W1.heap.size W2.heap.size ds.length k = own k := fun k hk => if_pos hk
  have e1 : ∀ k, x1 ≤ k → k < W1.heap.size → ownO own W.heap.size x1 W1.heap.size W2.heap.size ds.length k = 2 * ds.length + 2 := fun k h1 h2 => by
    unfold ownO; rw [if_neg (by omega), if_neg (by omega), if_pos h2]
  have e2 : ∀ k, W1.heap.size ≤ k → k < W2.heap.size → ownO own W.heap.size x1 W1.heap.size W2.heap.size ds.length k = 2 * ds.length + 3 := fun k h1 h2 => by
    unfold ownO; rw [if_neg (by omega), if_neg (by omega), if_neg (by omega), if_pos h2]
  have e3 : ∀ k, W2.heap.size ≤ k → ownO own W.heap.size x1 W1.heap.size W2.heap.size ds.length k = 1 := fun k h1 => by
    unfold ownO; rw [if_neg (by omega), if_neg (by omega), if_neg (by omega), if_neg (by omega)]
  have hA0 : LA K Inv B (ownO own W.heap.size x1 W1.heap.size W2.heap.size ds.length) W pb dv one iv pv vs ps ds := h.reown e0 (fun k hk => by
    by_cases hl : k < W.heap.size
    · rw [e0 k hl] at hk; exact h.ge k hk
    · omega)
  have hA := hA0.below hb02
  have hdp : dv.ownBlock ≠ some pb := owns_ne hA.row hA.lw.blk (by decide)
  have hpb3 := hF.blk hA.lw.blk hdp
  have hdp' : dv'.ownBlock ≠ some pb := owns_ne hrow hpb3 (by decide)
  have hpbl := blk_lt hA.lw.blk
  have hF4 : Fr (fun k => dv.ownBlock = some k ∨ k = pb) W2 (W3.setCell ⟨pb, 0, none⟩ dv') := (hF.mono (T := fun k => dv.ownBlock = some k ∨ k = pb) (fun k _ hk => Or.inl hk)).setCell (p := ⟨pb, 0, none⟩) (fun _ => Or.inr rfl) _
  have hR : ∀ k, (dv.ownBlock = some k ∨ k = pb) → ownO own W.heap.size x1 W1.heap.size W2.heap.size ds.length k = 1 := fun k hk => by
    rcases hk with hk | hk
    · exact hA.ro k hk
    · exact hA.lo k (Or.inl hk)
  have hlist : ∀ {e : TypeId} {s : Nat} {u : Value} {n : Nat} {xs : List Value}, W2.ownsRow B e s u n xs → e ≠ 48 → e ≠ 30 → (W3.setCell ⟨pb, 0, none⟩ dv').ownsRow B e s u n xs := fun {e s u n xs} hu n1 n2 =>
    owns_fr hu hF4 (fun k hk hr => by
      rcases hr with hr | hr
      · exact own_types hu hA.row n1 hk hr
      · subst hr; exact owns_ne hu hA.lw.blk n2 hk)
  have hgd : ∀ i, i < ds.length → (ds ++ [(⟨W2.heap.size, xb, yb, d0, v⟩ : DP)]).getD i dp0 = ds.getD i dp0 := fun i hi => by simp [List.getD, List.getElem?_append_left hi]
  have hge : (ds ++ [(⟨W2.heap.size, xb, yb, d0, v⟩ : DP)]).getD ds.length dp0 = ⟨W2.heap.size, xb, yb, d0, v⟩ := by simp [List.getD]
  have hcase : ∀ i, i < (ds ++ [(⟨W2.heap.size, xb, yb, d0, v⟩ : DP)]).length → i < ds.length ∨ i = ds.length := fun i hi => by simp at hi; omega
  have hx3 := blk_lt hpair
  constructor
  · exact { bpb := hA.lw.bpb, blk := by rw [blk_set hpb3]; rfl, ints := hlist hA.lw.ints (by decide) (by decide), prs := hlist hA.lw.prs (by decide) (by decide),
            ki := fun i u hu => by obtain ⟨n, h1, h2⟩ := hA.lw.ki i u hu; exact ⟨n, h1, hlist h2 (by decide) (by decide)⟩,
            kp := fun i u hu => by obtain ⟨n, h1, h2⟩ := hA.lw.kp i u hu; exact ⟨n, h1, hlist h2 (by decide) (by decide)⟩, i4 := hA.lw.i4, p4 := hA.lw.p4 }
  · exact hA.lo
  · rw [List.length_append, List.map_append]
    exact owns_set hrow hdp' _ _
  · intro k hk
    rcases hnew k hk with hk | hk
    · exact hA.ro k hk
    · exact e3 k hk
  · intro i hi
    rcases hcase i hi with hi | rfl
    · rw [hgd i hi]
      refine ⟨(hA.pr i hi).1, hF4.blk (hA.pr i hi).2 (fun hr => ?_)⟩
      rcases hr with hr | hr
      · exact owns_ne hA.row (hA.pr i hi).2 (by decide) hr
      · exact blk_ne (hA.pr i hi).2 hA.lw.blk (by decide) hr
    · rw [hge]
      refine ⟨e3 _ (Nat.le_refl _), (blk_other (show W2.heap.size ≠ pb by omega) _ _).trans hpair⟩
  · intro i hi
    rcases hcase i hi with hi | rfl
    · rw [hgd i hi]
      exact K.fr (hA.px i hi) hF4 (fun k hk hr => by have := hR k hr; have hk : ownO own W.heap.size x1 W1.heap.size W2.heap.size ds.length k = 2 * i + 2 := hk; omega)
    · rw [hge]
      have p1 : K.PD (fun k => ownO own W.heap.size x1 W1.heap.size W2.heap.size ds.length k = 2 * ds.length + 2) W1 xb d0 := K.mono hpd (fun k hk hx => e1 k hx hk)
      have p2 := K.fr (R := fun _ => False) p1 (Fr.of_below hb2) (fun _ _ hs => hs)
      exact K.fr p2 hF4 (fun k hk hr => by have := hR k hr; have hk : ownO own W.heap.size x1 W1.heap.size W2.heap.size ds.length k = 2 * ds.length + 2 := hk; omega)
  · intro i hi
    rcases hcase i hi with hi | rfl
    · rw [hgd i hi]
      exact (hA.py i hi).fr hF4 (fun k hk hr => by have := hR k hr; have hk : ownO own W.heap.size x1 W1.heap.size W2.heap.size ds.length k = 2 * i + 3 := hk; omega)
    · rw [hge]
      have p1 : RD (fun k => ownO own W.heap.size x1 W1.heap.size W2.heap.size ds.length k = 2 * ds.length + 3) W2 yb d0 v := hrd.mono (fun k hk hx => e2 k hx hk)
      exact p1.fr hF4 (fun k hk hr => by have := hR k hr; have hk : ownO own W.heap.size x1 W1.heap.size W2.heap.size ds.length k = 2 * ds.length + 3 := hk; omega)
  · intro i hi
    rcases hcase i hi with hi | rfl
    · rw [hgd i hi]; exact hA.inv i hi
    · rw [hge]; exact hinv
  · exact hA0.ge
def OpenedL (K : DeskKit) (Inv : DeskM → Prop) (B : Nat) (W : World) (pb : Nat) (one : Bool) (iv pv : Value) (vs ps : List Value) (ds : List DP) (a b c d : Int) (e : Ending) (W' : World) : Prop :=
  e = .returned (.bool true) ∧ ∃ own' dv' ds', LA K Inv B own' W' pb dv' one iv pv vs ps ds' ∧ Below B W W' ∧ ((confB a b c d = true ∧ ∃ t : DP, ds' = ds ++ [t] ∧ t.d = desk0 ⟨a.toNat, b.toNat, c.toNat, d.toNat⟩) ∨ (confB a b c d = false ∧ ds' = ds))
theorem Tryz.infoPp : (Tryz.prog.info? 48).map (fun i => (i.zero, i.size, i.bytes)) = some (some (.pointer none), 1, 8) := by kernel_rfl
theorem opened_no (K : DeskKit) (Inv : DeskM → Prop) (B : Nat) (own : Nat → Nat) (W : World) (pb : Nat) (dv : Value) (iv pv : Value) (vs ps : List Value) (ds : List DP) (cf : ConfM)
    (h : LA K Inv B own W pb dv false iv pv vs ps ds) (hds : ds.length ≤ 1000000000000) (hc : confB cf.workers cf.queue cf.fuel cf.patience = true) (hI : Inv (desk0 cf)) :
    Calls Tryz.prog 7 #[.pointer (some ⟨pb, 0, none⟩), confV cf.workers cf.queue cf.fuel cf.patience] W fun e W' => OpenedL K Inv B W pb false iv pv vs ps ds cf.workers cf.queue cf.fuel cf.patience e W' := by
  have H : Hid (LA K Inv B own W pb dv false iv pv vs ps ds) := h
  have hpb := blk_lt h.lw.blk
  have c1 : W.cell? ⟨pb, 1, none⟩ = some (.bool false) := by rw [blk_cell h.lw.blk]; rfl
  obtain ⟨da, dc, rfl⟩ := owns_form h.row
  have c0 : W.cell? ⟨pb, 0, none⟩ = some (.slice da ds.length dc) := by rw [blk_cell h.lw.blk]; rfl
  have HC : Hid (confB cf.workers cf.queue cf.fuel cf.patience = true) := hc
  have HI : Hid (Inv (desk0 cf)) := hI
  obtain ⟨N, hN⟩ : ∃ N, N = ds.length := ⟨_, rfl⟩
  have HN : Hid (N = ds.length) := hN
  have HRow : Hid (W.ownsRow B 48 1 (.slice da N dc) N (ds.map fun t => ptrV t.p)) := by rw [hN]; exact h.row
  rw [← hN] at c0 hds
  clear h hc hN hI
  obtain ⟨n, b, c, d⟩ := cf
  unfold confV
  simp only
  obtain ⟨i0, hi0, hz0, hz1, hz2⟩ := info_parts Tryz.infoPp
  go_enter Tryz.func7, Tryz.ntmps7
  go_wp2_with fail
  refine name_calls (p := fun X => Below W.heap.size W X ∧ X.heap[W.heap.size]? = some (.cells #[.int .i64 (n : Int), .int .i64 (b : Int), .int .i64 (c : Int), .int .i64 (d : Int)] 32 (0, 0))) ⟨(Below.refl _ _).alloc (Nat.le_refl _) _, heap_alloc_new _ _⟩ ?_
  rintro X1 ⟨k1, k2⟩
  have HX1 : Hid (Below W.heap.size W X1 ∧ X1.heap[W.heap.size]? = some (.cells #[.int .i64 (n : Int), .int .i64 (b : Int), .int .i64 (c : Int), .int .i64 (d : Int)] 32 (0, 0))) := ⟨k1, k2⟩
  have hbo := blk_lt k2
  clear k1 k2
  refine (K.new ⟨n, b, c, d⟩ X1 HC.out).mono ?_
  rintro e W1 ⟨xb, rfl, hpd, hb1⟩
  unfold ptrV
  have HP1 : Hid (K.PD (fun k => X1.heap.size ≤ k) W1 xb (desk0 ⟨n, b, c, d⟩) ∧ Below X1.heap.size X1 W1) := ⟨hpd, hb1⟩
  have hbox : W1.heap[W.heap.size]? = _ := (hb1.block _ hbo).trans HX1.out.2
  have o0 : W1.cell? ⟨W.heap.size, 0, none⟩ = some (.int .i64 (n : Int)) := by rw [blk_cell hbox]; rfl
  have o1 : W1.cell? ⟨W.heap.size, 1, none⟩ = some (.int .i64 (b : Int)) := by rw [blk_cell hbox]; rfl
  have o2 : W1.cell? ⟨W.heap.size, 2, none⟩ = some (.int .i64 (c : Int)) := by rw [blk_cell hbox]; rfl
  have o3 : W1.cell? ⟨W.heap.size, 3, none⟩ = some (.int .i64 (d : Int)) := by rw [blk_cell hbox]; rfl
  have hsz1 : W.heap.size ≤ W1.heap.size := Nat.le_trans HX1.out.1.size hb1.size
  clear hpd hb1 hbox
  go_wp2_with fail
  refine (refNew_ok ⟨n, b, c, d⟩ W1 HC.out).mono ?_
  rintro e W2 ⟨yb, v, rfl, hrd, hb2⟩
  unfold ptrV
  have HB2 : Hid (Below W.heap.size W W2 ∧ Below W1.heap.size W1 W2 ∧ RD (fun k => W1.heap.size ≤ k) W2 yb (desk0 ⟨n, b, c, d⟩) v) := ⟨(HX1.out.1.trans (HP1.out.2.mono HX1.out.1.size)).trans (hb2.mono hsz1), hb2, hrd⟩
  have d0 := (HB2.out.1.cell (p := ⟨pb, 0, none⟩) hpb).trans c0
  have hf0 : W2.frozen? ⟨pb, 0, none⟩ = false := by rw [HB2.out.1.frozen (p := ⟨pb, 0, none⟩) hpb]; exact blk_free H.out.lw.blk
  have HR2 : Hid (((W2.alloc (.cells #[.pointer (some ⟨xb, 0, none⟩), .pointer (some ⟨yb, 0, none⟩)] 50)).alloc (.cells #[.pointer (some ⟨W2.heap.size, 0, none⟩)] 48)).ownsRow B 48 1 (.slice da N dc) N (ds.map fun t => ptrV t.p)) := ((owns_keep HRow.out HB2.out.1).alloc _).alloc _
  have hsz2 := HB2.out.1.size
  clear hb2 hrd o0 o1 o2 o3 c0 c1
  go_wp2_with (at_builtin; refine wpList_append_lies _ (by rfl) (.tmp 50) (.tmp 55) 26 (by rfl) B 48 i0 _ 1 8 Tryz.underlying26 hi0 hz0 hz1 hz2 (by rfl) (by decide) (.slice da N dc) N (ds.map fun t => ptrV t.p) (by rfl) HR2.out ⟨W2.heap.size + 1, 0, none⟩ 1 1 [.pointer (some ⟨W2.heap.size, 0, none⟩)] (by rfl) (by rfl) ?_ ?_ (by decide) ?_ ?_ ?_ _ (by rfl) ?_)
  · exact World.news_of_block (new1E _ _ _)
  · intro u hu; simp at hu; subst hu; rfl
  · unfold maxLen; omega
  · omega
  · have := H.out.size; simp; omega
  · intro g1 cap1 w3 hown3 hgrow3 hat hlt3
    have hF3 : Fr (fun k => (Value.slice da N dc).ownBlock = some k) W2 w3 := (((Fr.refl _ W2).alloc _).alloc _).grown hgrow3 (fun k hk _ => hk)
    have hdl : ∀ k, (Value.slice da N dc).ownBlock = some k → k < W.heap.size := fun k hk => (owns_lt HRow.out hk).2
    have hdp : ¬ (Value.slice da N dc).ownBlock = some pb := owns_ne HRow.out H.out.lw.blk (by decide)
    have HE : Hid (LA K Inv B (ownO own W.heap.size X1.heap.size W1.heap.size W2.heap.size ds.length) (w3.setCell ⟨pb, 0, none⟩ (.slice (some ⟨g1, 0, none⟩) (N + 1) cap1)) pb (.slice (some ⟨g1, 0, none⟩) (N + 1) cap1) false iv pv vs ps (ds ++ [⟨W2.heap.size, xb, yb, desk0 ⟨n, b, c, d⟩, v⟩]) ∧ Below B W (w3.setCell ⟨pb, 0, none⟩ (.slice (some ⟨g1, 0, none⟩) (N + 1) cap1))) := by
      refine ⟨LA.openedL (dv' := .slice (some ⟨g1, 0, none⟩) (N + 1) cap1) H.out HX1.out.1.size HP1.out.2.size (HX1.out.1.trans (HP1.out.2.mono HX1.out.1.size)) HP1.out.1 HB2.out.2.1 HB2.out.2.2 HI.out (by rw [← HN.out]; exact hF3) (by rw [← HN.out]; exact hown3) (fun k hk => ?_) ?_, ?_⟩
      · rw [← HN.out]
        injection hk with hk
        have hk : g1 = k := hk
        subst hk
        rcases hat with h | h
        · exact Or.inl h
        · exact Or.inr (by omega)
      · rw [hgrow3.block W2.heap.size (by simp; omega) (fun e => by have := hdl _ e.symm; omega)]
        exact new0E _ _ _
      · exact (((HB2.out.1.mono H.out.size).trans (hF3.below (fun k hk => owns_ge HRow.out hk) (by have := H.out.size; omega)))).setCell (p := ⟨pb, 0, none⟩) H.out.lw.bpb _
    have k0 : w3.cell? ⟨pb, 0, none⟩ = some (.slice da N dc) := (hF3.cell (by omega) hdp).trans d0
    have kf : w3.frozen? ⟨pb, 0, none⟩ = false := (hF3.frozen (by omega) hdp).trans hf0
    clear hown3 hgrow3 hat hlt3 hF3 d0 hf0 hdl hdp
    go_wp2
    go_ret
    refine ⟨rfl, _, _, _, HE.out.1, HE.out.2, Or.inl ⟨HC.out, _, rfl, ?_⟩⟩
    simp
theorem opened_bad (K : DeskKit) (Inv : DeskM → Prop) (B : Nat) (own : Nat → Nat) (W : World) (pb : Nat) (dv : Value) (iv pv : Value) (vs ps : List Value) (ds : List DP) (a b c d : Int)
    (h : LA K Inv B own W pb dv false iv pv vs ps ds) (hc : confB a b c d = false) :
    Calls Tryz.prog 7 #[.pointer (some ⟨pb, 0, none⟩), confV a b c d] W fun e W' => OpenedL K Inv B W pb false iv pv vs ps ds a b c d e W' := by
  have H : Hid (LA K Inv B own W pb dv false iv pv vs ps ds) := h
  have hpb := blk_lt h.lw.blk
  have c1 : W.cell? ⟨pb, 1, none⟩ = some (.bool false) := by rw [blk_cell h.lw.blk]; rfl
  have HC : Hid (confB a b c d = false) := hc
  clear h hc
  unfold confV
  go_enter Tryz.func7, Tryz.ntmps7
  go_wp2_with fail
  refine name_calls (p := fun X => Below W.heap.size W X ∧ X.heap[W.heap.size]? = some (.cells #[.int .i64 a, .int .i64 b, .int .i64 c, .int .i64 d] 32 (0, 0))) ⟨(Below.refl _ _).alloc (Nat.le_refl _) _, heap_alloc_new _ _⟩ ?_
  rintro X1 ⟨k1, k2⟩
  have HX1 : Hid (Below W.heap.size W X1 ∧ X1.heap[W.heap.size]? = some (.cells #[.int .i64 a, .int .i64 b, .int .i64 c, .int .i64 d] 32 (0, 0))) := ⟨k1, k2⟩
  have hbo := blk_lt k2
  clear k1 k2
  refine (K.newBad a b c d X1 HC.out).mono ?_
  rintro e W1 ⟨rfl, hb1⟩
  have hbox : W1.heap[W.heap.size]? = _ := (hb1.block _ hbo).trans HX1.out.2
  have o0 : W1.cell? ⟨W.heap.size, 0, none⟩ = some (.int .i64 a) := by rw [blk_cell hbox]; rfl
  have o1 : W1.cell? ⟨W.heap.size, 1, none⟩ = some (.int .i64 b) := by rw [blk_cell hbox]; rfl
  have o2 : W1.cell? ⟨W.heap.size, 2, none⟩ = some (.int .i64 c) := by rw [blk_cell hbox]; rfl
  have o3 : W1.cell? ⟨W.heap.size, 3, none⟩ = some (.int .i64 d) := by rw [blk_cell hbox]; rfl
  have HB1 : Hid (Below W.heap.size W W1) := HX1.out.1.trans (hb1.mono HX1.out.1.size)
  clear hb1 hbox
  go_wp2_with fail
  refine (refNew_bad a b c d W1 HC.out).mono ?_
  rintro e W2 ⟨rfl, hb2⟩
  have HB2 : Hid (Below W.heap.size W W2) := HB1.out.trans (hb2.mono HB1.out.size)
  clear hb2 o0 o1 o2 o3 c1
  go_wp2
  go_ret
  exact ⟨rfl, _, _, _, H.out.below HB2.out, HB2.out.mono H.out.size, Or.inr ⟨HC.out, rfl⟩⟩
def pollsN (ds : List DP) : Nat → Nat
  | 0 => 0
  | j + 1 => pollsN ds j + ((ds.getD j dp0).d.jobs.length + 2)
theorem pollsN_mono (ds : List DP) {a b : Nat} (h : a ≤ b) : pollsN ds a ≤ pollsN ds b := by
  induction b with
  | zero => rw [Nat.le_zero.1 h]; exact Nat.le_refl _
  | succ b ih =>
    by_cases e : a = b + 1
    · rw [e]; exact Nat.le_refl _
    · have := ih (by omega)
      have e : pollsN ds (b + 1) = pollsN ds b + ((ds.getD b dp0).d.jobs.length + 2) := rfl
      omega
def AskRel (K : DeskKit) (Inv : DeskM → Prop) (B : Nat) (W : World) (pb : Nat) (dv : Value) (one : Bool) (vs ps : List Value) (ds : List DP) (V P : Nat) (wr : World) : Prop :=
  ∃ own' iv' pv' vs' ps', LA K Inv B own' wr pb dv one iv' pv' vs' ps' ds ∧ vs'.length = vs.length + V ∧ ps'.length = ps.length + P ∧ Below B W wr
def AskedL (K : DeskKit) (Inv : DeskM → Prop) (B : Nat) (W : World) (pb : Nat) (dv : Value) (one : Bool) (ds : List DP) (e : Ending) (W' : World) : Prop :=
  e = .returned (.bool true) ∧ ∃ own' iv' pv' vs' ps', LA K Inv B own' W' pb dv one iv' pv' vs' ps' ds ∧ Below B W W'
theorem asked_any (K : DeskKit) (Inv : DeskM → Prop) (B : Nat) (own : Nat → Nat) (W : World) (pb : Nat) (dv : Value) (one : Bool) (iv pv : Value) (vs ps : List Value) (ds : List DP)
    (h : LA K Inv B own W pb dv one iv pv vs ps ds) (hT : ∀ d, Inv d → d.jobs.length ≤ 1000000000 ∧ d.goods.length ≤ 1000000000 ∧ ∀ k, k < d.jobs.length → (d.jobs.getD k jobM0).told.length ≤ 200)
    (hv : vs.length + 4 * pollsN ds ds.length ≤ 1000000000000) (hp : ps.length + 4 * ds.length ≤ 1000000000000) :
    Calls Tryz.prog 10 #[.pointer (some ⟨pb, 0, none⟩)] W fun e W' => AskedL K Inv B W pb dv one ds e W' := by
  have H0 : Hid (AskRel K Inv B W pb dv one vs ps ds (4 * pollsN ds 0) (4 * 0) W) := ⟨own, iv, pv, vs, ps, h, rfl, rfl, Below.refl _ _⟩
  have HT : Hid (∀ d, Inv d → d.jobs.length ≤ 1000000000 ∧ d.goods.length ≤ 1000000000 ∧ ∀ k, k < d.jobs.length → (d.jobs.getD k jobM0).told.length ≤ 200) := hT
  have HV : Hid (vs.length + 4 * pollsN ds ds.length ≤ 1000000000000 ∧ ps.length + 4 * ds.length ≤ 1000000000000) := ⟨hv, hp⟩
  obtain ⟨da, dc, rfl⟩ := owns_form h.row
  obtain ⟨N, hN⟩ : ∃ N, N = ds.length := ⟨_, rfl⟩
  have HN : Hid (ds.length = N) := hN.symm
  have hNl : N ≤ 1000000000000 := by omega
  have HD : Hid (Value.slice da ds.length dc = Value.slice da N dc) := by rw [hN]; rfl
  rw [HD.out] at H0 ⊢
  clear h hT hv hp hN
  go_enter Tryz.func10, Tryz.ntmps10
  go_wp2
  go_loopw [3] (fun i wr => ∃ j : Nat, j ≤ N ∧ i = .int .i64 j ∧ AskRel K Inv B W pb (.slice da N dc) one vs ps ds (4 * pollsN ds j) (4 * j) wr) (fun i _ => N - (intOf i).toNat)
  case atStart => exact ⟨0, Nat.zero_le _, rfl, H0.out⟩
  case round =>
    obtain ⟨j, hj, rfl, hA⟩ := hrel
    clear H0
    obtain ⟨own1, iv1, pv1, vs1, ps1, hL, hvl, hpl, hbel⟩ := hA
    have HA : Hid (LA K Inv B own1 wr pb (.slice da N dc) one iv1 pv1 vs1 ps1 ds ∧ vs1.length = vs.length + 4 * pollsN ds j ∧ ps1.length = ps.length + 4 * j ∧ Below B W wr) := ⟨hL, hvl, hpl, hbel⟩
    have c0 : wr.cell? ⟨pb, 0, none⟩ = some (.slice da N dc) := by rw [blk_cell hL.lw.blk]; rfl
    have hpb := blk_lt hL.lw.blk
    by_cases hlt : j < N
    · have hjl : j < ds.length := by rw [HN.out]; exact hlt
      obtain ⟨g, cap, hgv, hgl, hcell⟩ := owns_pos hL.row (by omega)
      injection hgv with h1 h2 h3
      subst h1 h3
      have cj : wr.cell? ⟨g, j, none⟩ = some (.pointer (some ⟨(ds.getD j dp0).p, 0, none⟩)) := by
        rw [hcell j (by omega)]; simp [List.getD, hjl, ptrV]
      have m1 : (j : Int) < (N : Int) := by omega
      have HM : Hid ((ds.getD j dp0).d.goods.length ≤ 1000000000000 ∧ ps1.length ≤ 1000000000000) := ⟨by have := (HT.out _ (hL.inv j hjl)).2.1; omega, by have := HV.out.2; omega⟩
      obtain ⟨t, ht⟩ : ∃ t, t = ds.getD j dp0 := ⟨_, rfl⟩
      have HTt : Hid (ds.getD j dp0 = t) := ht.symm
      rw [← ht] at cj
      clear hL hvl hpl hbel hcell h2 ht
      go_wp2_with fail
      have hmp := mapped_any K Inv B own1 wr pb _ one iv1 pv1 vs1 ps1 ds j HA.out.1 hjl HM.out.2 HM.out.1
      rw [HTt.out] at hmp
      refine hmp.mono ?_
      clear hmp
      rintro e W1 ⟨rfl, own2, iv2, pv2, vs2, ps2, hL2, hv2, hp2, hb2⟩
      have HA2 : Hid (AskRel K Inv B W pb (.slice (some ⟨g, 0, none⟩) N dc) one vs ps ds (4 * pollsN ds j + 4 * 0) (4 * (j + 1)) W1) := ⟨own2, iv2, pv2, vs2, ps2, hL2, by have := HA.out.2.1; omega, by have := HA.out.2.2.1; omega, HA.out.2.2.2.trans hb2⟩
      have HJ : Hid ((ds.getD j dp0).d.jobs.length ≤ 1000000000) := (HT.out _ (hL2.inv j hjl)).1
      obtain ⟨J, hJ⟩ : ∃ J, J = t.d.jobs.length := ⟨_, rfl⟩
      have HJJ : Hid (t.d.jobs.length = J) := hJ.symm
      have hJl : J ≤ 1000000000 := by rw [hJ, ← HTt.out]; exact HJ.out
      clear hL2 hv2 hp2 hb2 c0 cj HA hJ
      go_wp2
      go_loopw [6] (fun n wr2 => ∃ k : Nat, k ≤ J + 2 ∧ n = .int .i64 k ∧ AskRel K Inv B W pb (.slice (some ⟨g, 0, none⟩) N dc) one vs ps ds (4 * pollsN ds j + 4 * k) (4 * (j + 1)) wr2) (fun n _ => J + 2 - (intOf n).toNat)
      case atStart => exact ⟨0, Nat.zero_le _, rfl, HA2.out⟩
      case round =>
        obtain ⟨k, hk, rfl, hA⟩ := hrel
        clear HA2
        obtain ⟨own3, iv3, pv3, vs3, ps3, hL, hvl, hpl, hbel⟩ := hA
        have HA : Hid (LA K Inv B own3 wr pb (.slice (some ⟨g, 0, none⟩) N dc) one iv3 pv3 vs3 ps3 ds ∧ vs3.length = vs.length + (4 * pollsN ds j + 4 * k) ∧ ps3.length = ps.length + 4 * (j + 1) ∧ Below B W wr) := ⟨hL, hvl, hpl, hbel⟩
        have cy := hL.cy hjl
        obtain ⟨ja, jc, hjv⟩ := owns_form (hL.py j hjl).jobs
        have c4 : wr.cell? ⟨(ds.getD j dp0).y, 4, none⟩ = some (.slice ja (ds.getD j dp0).d.jobs.length jc) := by rw [blk_cell (hL.py j hjl).blk, ← hjv]; rfl
        rw [HTt.out] at cy c4
        rw [HJJ.out] at c4
        have hw : IntKind.i64.wrap ((J : Int) + 1) = (J : Int) + 1 := by rw [IntKind.wrap_i64]; omega
        clear hL hvl hpl hbel hjv
        by_cases hk2 : k < J + 2
        · have m2 : (k : Int) ≤ (J : Int) + 1 := by omega
          have HM2 : Hid (vs3.length ≤ 1000000000000 ∧ (ds.getD j dp0).d.jobs.length ≤ 1000000000000 ∧ ∀ q, q < (ds.getD j dp0).d.jobs.length → ((ds.getD j dp0).d.jobs.getD q jobM0).told.length ≤ 200) := by
            refine ⟨?_, by have := HJ.out; omega, (HT.out _ (HA.out.1.inv j hjl)).2.2⟩
            have e : pollsN ds (j + 1) = pollsN ds j + (J + 2) := by rw [pollsN, HTt.out, HJJ.out]
            have := pollsN_mono ds (show j + 1 ≤ ds.length from hjl)
            have := HV.out.1
            have := HA.out.2.1
            omega
          go_wp2_with fail
          have hpo := polled_any K Inv B own3 wr pb _ one iv3 pv3 vs3 ps3 ds j (k : Int) HA.out.1 hjl HM2.out.1 HM2.out.2.1 HM2.out.2.2
          rw [HTt.out] at hpo
          refine hpo.mono ?_
          clear hpo
          rintro e W3 ⟨rfl, own4, iv4, pv4, vs4, ps4, hL4, hv4, hp4, hb4⟩
          have HA4 : Hid (AskRel K Inv B W pb (.slice (some ⟨g, 0, none⟩) N dc) one vs ps ds (4 * pollsN ds j + 4 * (k + 1)) (4 * (j + 1)) W3) := ⟨own4, iv4, pv4, vs4, ps4, hL4, by have := HA.out.2.1; omega, by have := HA.out.2.2.1; omega, HA.out.2.2.2.trans hb4⟩
          clear hL4 hv4 hp4 hb4 cy c4
          go_wp2
          go_roundw
          case rel => exact ⟨k + 1, by omega, by go_num, HA4.out⟩
          case measure => simp [intOf]; omega
        · have m2 : ¬ ((k : Int) ≤ (J : Int) + 1) := by omega
          go_wp2
          go_roundw
          case rel =>
            refine ⟨j + 1, by omega, by go_num, own3, iv3, pv3, vs3, ps3, HA.out.1, ?_, HA.out.2.2.1, HA.out.2.2.2⟩
            have e : pollsN ds (j + 1) = pollsN ds j + (J + 2) := by rw [pollsN, HTt.out, HJJ.out]
            have := HA.out.2.1
            omega
          case measure => simp [intOf]; omega
    · obtain rfl : j = N := by omega
      obtain ⟨ia, ic, hiv⟩ := owns_form hL.lw.ints
      obtain ⟨pa, pc, hpv⟩ := owns_form hL.lw.prs
      subst hiv hpv
      have HW : Hid (vs1.length ≤ 1000000000000 ∧ ps1.length ≤ 1000000000000) := by
        have := HV.out
        have := HA.out.2.1
        have := HA.out.2.2.1
        rw [HN.out] at *
        constructor <;> omega
      clear hL hvl hpl hbel
      go_wp2_with fail
      refine (whole_any B wr pb _ _ ia _ ic pa _ pc vs1 ps1 rfl rfl HW.out.1 HW.out.2 HA.out.1.lw).mono ?_
      rintro e W4 ⟨rfl, hb4⟩
      have HE : Hid (AskedL K Inv B W pb (.slice da j dc) one ds (.returned (.bool true)) W4) := ⟨rfl, own1, _, _, vs1, ps1, HA.out.1.below hb4, HA.out.2.2.2.trans (hb4.mono HA.out.1.size)⟩
      clear hb4
      go_wp2
      go_ret
      exact HE.out
end Go.Proofs.YtlbmcdoldnajoaaGreat
