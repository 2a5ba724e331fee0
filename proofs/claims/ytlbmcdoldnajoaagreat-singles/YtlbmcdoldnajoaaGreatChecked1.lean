import Derived.Test.YtlbmcdoldnajoaaGreatLawG
import Derived.Test.YtlbmcdoldnajoaaGreatRefJ
import Derived.Test.YtlbmcdoldnajoaaGreatRanL
import Derived.Test.YtlbmcdoldnajoaaGreatRanKit
import Derived.Test.YtlbmcdoldnajoaaGreatRefCheckW
set_option maxRecDepth 100000
set_option maxHeartbeats 400000
namespace Go.Proofs.YtlbmcdoldnajoaaGreat
open Go.RowKit
theorem opened_no1 (K : DeskKit) (Inv : DeskM → Prop) (B : Nat) (own : Nat → Nat) (W : World) (pb : Nat) (dv : Value) (iv pv : Value) (vs ps : List Value) (ds : List DP) (a : Int) (b c d : Nat)
    (h : LA K Inv B own W pb dv true iv pv vs ps ds) (hds : ds.length ≤ 1000000000000) (m1 : 1 ≤ a) (m2 : a ≤ 4) (hc : confB 1 b c d = true) (hI : Inv (desk0 ⟨1, b, c, d⟩)) :
    Calls Tryz.prog 7 #[.pointer (some ⟨pb, 0, none⟩), confV a b c d] W fun e W' => OpenedL K Inv B W pb true iv pv vs ps ds 1 b c d e W' := by
  have H : Hid (LA K Inv B own W pb dv true iv pv vs ps ds) := h
  have hpb := blk_lt h.lw.blk
  have c1 : W.cell? ⟨pb, 1, none⟩ = some (.bool true) := by rw [blk_cell h.lw.blk]; rfl
  obtain ⟨da, dc, rfl⟩ := owns_form h.row
  have c0 : W.cell? ⟨pb, 0, none⟩ = some (.slice da ds.length dc) := by rw [blk_cell h.lw.blk]; rfl
  have HC : Hid (confB 1 b c d = true) := hc
  have HI : Hid (Inv (desk0 ⟨1, b, c, d⟩)) := hI
  obtain ⟨N, hN⟩ : ∃ N, N = ds.length := ⟨_, rfl⟩
  have HN : Hid (N = ds.length) := hN
  have HRow : Hid (W.ownsRow B 48 1 (.slice da N dc) N (ds.map fun t => ptrV t.p)) := by rw [hN]; exact h.row
  rw [← hN] at c0 hds
  clear h hc hN hI
  unfold confV
  obtain ⟨i0, hi0, hz0, hz1, hz2⟩ := info_parts Tryz.infoPp
  go_enter Tryz.func7, Tryz.ntmps7
  go_wp2_with fail
  refine name_calls (p := fun X => Below W.heap.size W X ∧ X.heap[W.heap.size]? = some (.cells #[.int .i64 1, .int .i64 (b : Int), .int .i64 (c : Int), .int .i64 (d : Int)] 32 (0, 0))) ⟨(Below.refl _ _).alloc (Nat.le_refl _) _, heap_alloc_new _ _⟩ ?_
  rintro X1 ⟨k1, k2⟩
  have HX1 : Hid (Below W.heap.size W X1 ∧ X1.heap[W.heap.size]? = some (.cells #[.int .i64 1, .int .i64 (b : Int), .int .i64 (c : Int), .int .i64 (d : Int)] 32 (0, 0))) := ⟨k1, k2⟩
  have hbo := blk_lt k2
  clear k1 k2
  refine (K.new ⟨1, b, c, d⟩ X1 HC.out).mono ?_
  rintro e W1 ⟨xb, rfl, hpd, hb1⟩
  unfold ptrV
  have HP1 : Hid (K.PD (fun k => X1.heap.size ≤ k) W1 xb (desk0 ⟨1, b, c, d⟩) ∧ Below X1.heap.size X1 W1) := ⟨hpd, hb1⟩
  have hbox : W1.heap[W.heap.size]? = _ := (hb1.block _ hbo).trans HX1.out.2
  have o0 : W1.cell? ⟨W.heap.size, 0, none⟩ = some (.int .i64 1) := by rw [blk_cell hbox]; rfl
  have o1 : W1.cell? ⟨W.heap.size, 1, none⟩ = some (.int .i64 (b : Int)) := by rw [blk_cell hbox]; rfl
  have o2 : W1.cell? ⟨W.heap.size, 2, none⟩ = some (.int .i64 (c : Int)) := by rw [blk_cell hbox]; rfl
  have o3 : W1.cell? ⟨W.heap.size, 3, none⟩ = some (.int .i64 (d : Int)) := by rw [blk_cell hbox]; rfl
  have hsz1 : W.heap.size ≤ W1.heap.size := Nat.le_trans HX1.out.1.size hb1.size
  clear hpd hb1 hbox
  go_wp2_with fail
  refine (refNew_ok ⟨1, b, c, d⟩ W1 HC.out).mono ?_
  rintro e W2 ⟨yb, v, rfl, hrd, hb2⟩
  unfold ptrV
  have HB2 : Hid (Below W.heap.size W W2 ∧ Below W1.heap.size W1 W2 ∧ RD (fun k => W1.heap.size ≤ k) W2 yb (desk0 ⟨1, b, c, d⟩) v) := ⟨(HX1.out.1.trans (HP1.out.2.mono HX1.out.1.size)).trans (hb2.mono hsz1), hb2, hrd⟩
  have d0 := (HB2.out.1.cell (p := ⟨pb, 0, none⟩) hpb).trans c0
  have hf0 : W2.frozen? ⟨pb, 0, none⟩ = false := by rw [HB2.out.1.frozen (p := ⟨pb, 0, none⟩) hpb]; exact blk_free H.out.lw.blk
  have HR2 : Hid (((W2.alloc (.cells #[.pointer (some ⟨xb, 0, none⟩), .pointer (some ⟨yb, 0, none⟩)] 50)).alloc (.cells #[.pointer (some ⟨W2.heap.size, 0, none⟩)] 48)).ownsRow B 48 1 (.slice da N dc) N (ds.map fun t => ptrV t.p)) := ((owns_keep HRow.out HB2.out.1).alloc _).alloc _
  have hsz2 := HB2.out.1.size
  clear hb2 hrd o0 o1 o2 o3 c0 c1
  go_wp2_with (at_builtin; refine wpList_append_lies _ (by rfl) (.tmp 50) (.tmp 55) 26 (by rfl) B 48 i0 _ 1 8 Tryz.underlying26 hi0 hz0 hz1 hz2 (by rfl) (by decide) (.slice da N dc) N (ds.map fun t => ptrV t.p) (by rfl) HR2.out ⟨W2.heap.size + 1, 0, none⟩ 1 1 [.pointer (some ⟨W2.heap.size, 0, none⟩)] (by rfl) (by rfl) ?_ ?_ (by decide) ?_ ?_ ?_ _ (by rfl) ?_)
  · exact World.news_of_block (new1E _ _ _)
  · intro u hu; simp at hu; subst hu; rfl
  · unfold maxLen; omega
  · omega
  · have := H.out.size; simp; omega
  · intro g1 cap1 w3 hown3 hgrow3 hat hlt3
    have hF3 : Fr (fun k => (Value.slice da N dc).ownBlock = some k) W2 w3 := (((Fr.refl _ W2).alloc _).alloc _).grown hgrow3 (fun k hk _ => hk)
    have hdl : ∀ k, (Value.slice da N dc).ownBlock = some k → k < W.heap.size := fun k hk => (owns_lt HRow.out hk).2
    have hdp : ¬ (Value.slice da N dc).ownBlock = some pb := owns_ne HRow.out H.out.lw.blk (by decide)
    have HE : Hid (LA K Inv B (ownO own W.heap.size X1.heap.size W1.heap.size W2.heap.size ds.length) (w3.setCell ⟨pb, 0, none⟩ (.slice (some ⟨g1, 0, none⟩) (N + 1) cap1)) pb (.slice (some ⟨g1, 0, none⟩) (N + 1) cap1) true iv pv vs ps (ds ++ [⟨W2.heap.size, xb, yb, desk0 ⟨1, b, c, d⟩, v⟩]) ∧ Below B W (w3.setCell ⟨pb, 0, none⟩ (.slice (some ⟨g1, 0, none⟩) (N + 1) cap1))) := by
      refine ⟨LA.openedL (dv' := .slice (some ⟨g1, 0, none⟩) (N + 1) cap1) H.out HX1.out.1.size HP1.out.2.size (HX1.out.1.trans (HP1.out.2.mono HX1.out.1.size)) HP1.out.1 HB2.out.2.1 HB2.out.2.2 HI.out (by rw [← HN.out]; exact hF3) (by rw [← HN.out]; exact hown3) (fun k hk => ?_) ?_, ?_⟩
      · rw [← HN.out]
        injection hk with hk
        have hk : g1 = k := hk
        subst hk
        rcases hat with h | h
        · exact Or.inl h
        · exact Or.inr (by omega)
      · rw [hgrow3.block W2.heap.size (by simp; omega) (fun e => by have := hdl _ e.symm; omega)]
        exact new0E _ _ _
      · exact (((HB2.out.1.mono H.out.size).trans (hF3.below (fun k hk => owns_ge HRow.out hk) (by have := H.out.size; omega)))).setCell (p := ⟨pb, 0, none⟩) H.out.lw.bpb _
    have k0 : w3.cell? ⟨pb, 0, none⟩ = some (.slice da N dc) := (hF3.cell (by omega) hdp).trans d0
    have kf : w3.frozen? ⟨pb, 0, none⟩ = false := (hF3.frozen (by omega) hdp).trans hf0
    clear hown3 hgrow3 hat hlt3 hF3 d0 hf0 hdl hdp
    go_wp2
    go_ret
    refine ⟨rfl, _, _, _, HE.out.1, HE.out.2, Or.inl ⟨HC.out, _, rfl, ?_⟩⟩
    simp
theorem opened_bad1 (K : DeskKit) (Inv : DeskM → Prop) (B : Nat) (own : Nat → Nat) (W : World) (pb : Nat) (dv : Value) (iv pv : Value) (vs ps : List Value) (ds : List DP) (a b c d : Int)
    (h : LA K Inv B own W pb dv true iv pv vs ps ds) (m1 : 1 ≤ a) (m2 : a ≤ 4) (hc : confB 1 b c d = false) :
    Calls Tryz.prog 7 #[.pointer (some ⟨pb, 0, none⟩), confV a b c d] W fun e W' => OpenedL K Inv B W pb true iv pv vs ps ds 1 b c d e W' := by
  have H : Hid (LA K Inv B own W pb dv true iv pv vs ps ds) := h
  have hpb := blk_lt h.lw.blk
  have c1 : W.cell? ⟨pb, 1, none⟩ = some (.bool true) := by rw [blk_cell h.lw.blk]; rfl
  have HC : Hid (confB 1 b c d = false) := hc
  clear h hc
  unfold confV
  go_enter Tryz.func7, Tryz.ntmps7
  go_wp2_with fail
  refine name_calls (p := fun X => Below W.heap.size W X ∧ X.heap[W.heap.size]? = some (.cells #[.int .i64 1, .int .i64 b, .int .i64 c, .int .i64 d] 32 (0, 0))) ⟨(Below.refl _ _).alloc (Nat.le_refl _) _, heap_alloc_new _ _⟩ ?_
  rintro X1 ⟨k1, k2⟩
  have HX1 : Hid (Below W.heap.size W X1 ∧ X1.heap[W.heap.size]? = some (.cells #[.int .i64 1, .int .i64 b, .int .i64 c, .int .i64 d] 32 (0, 0))) := ⟨k1, k2⟩
  have hbo := blk_lt k2
  clear k1 k2
  refine (K.newBad 1 b c d X1 HC.out).mono ?_
  rintro e W1 ⟨rfl, hb1⟩
  have hbox : W1.heap[W.heap.size]? = _ := (hb1.block _ hbo).trans HX1.out.2
  have o0 : W1.cell? ⟨W.heap.size, 0, none⟩ = some (.int .i64 1) := by rw [blk_cell hbox]; rfl
  have o1 : W1.cell? ⟨W.heap.size, 1, none⟩ = some (.int .i64 b) := by rw [blk_cell hbox]; rfl
  have o2 : W1.cell? ⟨W.heap.size, 2, none⟩ = some (.int .i64 c) := by rw [blk_cell hbox]; rfl
  have o3 : W1.cell? ⟨W.heap.size, 3, none⟩ = some (.int .i64 d) := by rw [blk_cell hbox]; rfl
  have HB1 : Hid (Below W.heap.size W W1) := HX1.out.1.trans (hb1.mono HX1.out.1.size)
  clear hb1 hbox
  go_wp2_with fail
  refine (refNew_bad 1 b c d W1 HC.out).mono ?_
  rintro e W2 ⟨rfl, hb2⟩
  have HB2 : Hid (Below W.heap.size W W2) := HB1.out.trans (hb2.mono HB1.out.size)
  clear hb2 o0 o1 o2 o3 c1
  go_wp2
  go_ret
  exact ⟨rfl, _, _, _, H.out.below HB2.out, HB2.out.mono H.out.size, Or.inr ⟨HC.out, rfl⟩⟩
theorem opened_bad2 (K : DeskKit) (Inv : DeskM → Prop) (B : Nat) (own : Nat → Nat) (W : World) (pb : Nat) (dv : Value) (iv pv : Value) (vs ps : List Value) (ds : List DP) (a b c d : Int)
    (h : LA K Inv B own W pb dv true iv pv vs ps ds) (m1 : ¬ 1 ≤ a) (hc : confB a b c d = false) :
    Calls Tryz.prog 7 #[.pointer (some ⟨pb, 0, none⟩), confV a b c d] W fun e W' => OpenedL K Inv B W pb true iv pv vs ps ds a b c d e W' := by
  have H : Hid (LA K Inv B own W pb dv true iv pv vs ps ds) := h
  have hpb := blk_lt h.lw.blk
  have c1 : W.cell? ⟨pb, 1, none⟩ = some (.bool true) := by rw [blk_cell h.lw.blk]; rfl
  have HC : Hid (confB a b c d = false) := hc
  clear h hc
  unfold confV
  go_enter Tryz.func7, Tryz.ntmps7
  go_wp2_with fail
  refine name_calls (p := fun X => Below W.heap.size W X ∧ X.heap[W.heap.size]? = some (.cells #[.int .i64 a, .int .i64 b, .int .i64 c, .int .i64 d] 32 (0, 0))) ⟨(Below.refl _ _).alloc (Nat.le_refl _) _, heap_alloc_new _ _⟩ ?_
  rintro X1 ⟨k1, k2⟩
  have HX1 : Hid (Below W.heap.size W X1 ∧ X1.heap[W.heap.size]? = some (.cells #[.int .i64 a, .int .i64 b, .int .i64 c, .int .i64 d] 32 (0, 0))) := ⟨k1, k2⟩
  have hbo := blk_lt k2
  clear k1 k2
  refine (K.newBad a b c d X1 HC.out).mono ?_
  rintro e W1 ⟨rfl, hb1⟩
  have hbox : W1.heap[W.heap.size]? = _ := (hb1.block _ hbo).trans HX1.out.2
  have o0 : W1.cell? ⟨W.heap.size, 0, none⟩ = some (.int .i64 a) := by rw [blk_cell hbox]; rfl
  have o1 : W1.cell? ⟨W.heap.size, 1, none⟩ = some (.int .i64 b) := by rw [blk_cell hbox]; rfl
  have o2 : W1.cell? ⟨W.heap.size, 2, none⟩ = some (.int .i64 c) := by rw [blk_cell hbox]; rfl
  have o3 : W1.cell? ⟨W.heap.size, 3, none⟩ = some (.int .i64 d) := by rw [blk_cell hbox]; rfl
  have HB1 : Hid (Below W.heap.size W W1) := HX1.out.1.trans (hb1.mono HX1.out.1.size)
  clear hb1 hbox
  go_wp2_with fail
  refine (refNew_bad a b c d W1 HC.out).mono ?_
  rintro e W2 ⟨rfl, hb2⟩
  have HB2 : Hid (Below W.heap.size W W2) := HB1.out.trans (hb2.mono HB1.out.size)
  clear hb2 o0 o1 o2 o3 c1
  go_wp2
  go_ret
  exact ⟨rfl, _, _, _, H.out.below HB2.out, HB2.out.mono H.out.size, Or.inr ⟨HC.out, rfl⟩⟩
theorem opened_bad3 (K : DeskKit) (Inv : DeskM → Prop) (B : Nat) (own : Nat → Nat) (W : World) (pb : Nat) (dv : Value) (iv pv : Value) (vs ps : List Value) (ds : List DP) (a b c d : Int)
    (h : LA K Inv B own W pb dv true iv pv vs ps ds) (m1 : 1 ≤ a) (m2 : ¬ a ≤ 4) (hc : confB a b c d = false) :
    Calls Tryz.prog 7 #[.pointer (some ⟨pb, 0, none⟩), confV a b c d] W fun e W' => OpenedL K Inv B W pb true iv pv vs ps ds a b c d e W' := by
  have H : Hid (LA K Inv B own W pb dv true iv pv vs ps ds) := h
  have hpb := blk_lt h.lw.blk
  have c1 : W.cell? ⟨pb, 1, none⟩ = some (.bool true) := by rw [blk_cell h.lw.blk]; rfl
  have HC : Hid (confB a b c d = false) := hc
  clear h hc
  unfold confV
  go_enter Tryz.func7, Tryz.ntmps7
  go_wp2_with fail
  refine name_calls (p := fun X => Below W.heap.size W X ∧ X.heap[W.heap.size]? = some (.cells #[.int .i64 a, .int .i64 b, .int .i64 c, .int .i64 d] 32 (0, 0))) ⟨(Below.refl _ _).alloc (Nat.le_refl _) _, heap_alloc_new _ _⟩ ?_
  rintro X1 ⟨k1, k2⟩
  have HX1 : Hid (Below W.heap.size W X1 ∧ X1.heap[W.heap.size]? = some (.cells #[.int .i64 a, .int .i64 b, .int .i64 c, .int .i64 d] 32 (0, 0))) := ⟨k1, k2⟩
  have hbo := blk_lt k2
  clear k1 k2
  refine (K.newBad a b c d X1 HC.out).mono ?_
  rintro e W1 ⟨rfl, hb1⟩
  have hbox : W1.heap[W.heap.size]? = _ := (hb1.block _ hbo).trans HX1.out.2
  have o0 : W1.cell? ⟨W.heap.size, 0, none⟩ = some (.int .i64 a) := by rw [blk_cell hbox]; rfl
  have o1 : W1.cell? ⟨W.heap.size, 1, none⟩ = some (.int .i64 b) := by rw [blk_cell hbox]; rfl
  have o2 : W1.cell? ⟨W.heap.size, 2, none⟩ = some (.int .i64 c) := by rw [blk_cell hbox]; rfl
  have o3 : W1.cell? ⟨W.heap.size, 3, none⟩ = some (.int .i64 d) := by rw [blk_cell hbox]; rfl
  have HB1 : Hid (Below W.heap.size W W1) := HX1.out.1.trans (hb1.mono HX1.out.1.size)
  clear hb1 hbox
  go_wp2_with fail
  refine (refNew_bad a b c d W1 HC.out).mono ?_
  rintro e W2 ⟨rfl, hb2⟩
  have HB2 : Hid (Below W.heap.size W W2) := HB1.out.trans (hb2.mono HB1.out.size)
  clear hb2 o0 o1 o2 o3 c1
  go_wp2
  go_ret
  exact ⟨rfl, _, _, _, H.out.below HB2.out, HB2.out.mono H.out.size, Or.inr ⟨HC.out, rfl⟩⟩
def adj (one : Bool) (a : Int) : Int := if one = true ∧ 1 ≤ a ∧ a ≤ 4 then 1 else a
theorem openedL_any (K : DeskKit) (Inv : DeskM → Prop) (B : Nat) (own : Nat → Nat) (W : World) (pb : Nat) (dv : Value) (one : Bool) (iv pv : Value) (vs ps : List Value) (ds : List DP) (a b c d : Int)
    (h : LA K Inv B own W pb dv one iv pv vs ps ds) (hds : ds.length ≤ 1000000000000) (hI : ∀ cf : ConfM, confB cf.workers cf.queue cf.fuel cf.patience = true → Inv (desk0 cf)) :
    Calls Tryz.prog 7 #[.pointer (some ⟨pb, 0, none⟩), confV a b c d] W fun e W' => OpenedL K Inv B W pb one iv pv vs ps ds (adj one a) b c d e W' := by
  cases one with
  | false =>
    have e : adj false a = a := by simp [adj]
    rw [e]
    cases hc : confB a b c d with
    | false => exact opened_bad K Inv B own W pb dv iv pv vs ps ds a b c d h hc
    | true =>
      obtain ⟨n, rfl⟩ : ∃ n : Nat, a = n := ⟨a.toNat, by simp [confB] at hc; omega⟩
      obtain ⟨m, rfl⟩ : ∃ n : Nat, b = n := ⟨b.toNat, by simp [confB] at hc; omega⟩
      obtain ⟨f, rfl⟩ : ∃ n : Nat, c = n := ⟨c.toNat, by simp [confB] at hc; omega⟩
      obtain ⟨q, rfl⟩ : ∃ n : Nat, d = n := ⟨d.toNat, by simp [confB] at hc; omega⟩
      exact opened_no K Inv B own W pb dv iv pv vs ps ds ⟨n, m, f, q⟩ h hds hc (hI _ hc)
  | true =>
    by_cases m1 : 1 ≤ a
    · by_cases m2 : a ≤ 4
      · have e : adj true a = 1 := by simp [adj, m1, m2]
        rw [e]
        cases hc : confB 1 b c d with
        | false => exact opened_bad1 K Inv B own W pb dv iv pv vs ps ds a b c d h m1 m2 hc
        | true =>
          obtain ⟨m, rfl⟩ : ∃ n : Nat, b = n := ⟨b.toNat, by simp [confB] at hc; omega⟩
          obtain ⟨f, rfl⟩ : ∃ n : Nat, c = n := ⟨c.toNat, by simp [confB] at hc; omega⟩
          obtain ⟨q, rfl⟩ : ∃ n : Nat, d = n := ⟨d.toNat, by simp [confB] at hc; omega⟩
          exact opened_no1 K Inv B own W pb dv iv pv vs ps ds a m f q h hds m1 m2 hc (hI ⟨1, m, f, q⟩ hc)
      · have e : adj true a = a := by simp [adj, m2]
        rw [e]
        exact opened_bad3 K Inv B own W pb dv iv pv vs ps ds a b c d h m1 m2 (by simp [confB]; omega)
    · have e : adj true a = a := by simp [adj, m1]
      rw [e]
      exact opened_bad2 K Inv B own W pb dv iv pv vs ps ds a b c d h m1 (by simp [confB]; omega)
def DU (d : DeskM) : Prop := DInv d ∧ UInv d
theorem du0 {cf : ConfM} (h : confB cf.workers cf.queue cf.fuel cf.patience = true) : DU (desk0 cf) := by
  simp [confB] at h
  exact ⟨dinv0 (by omega), uinv0 cf⟩
theorem small_of {d : DeskM} {N : Nat} (h : DU d) (hb : Bd N d) (hN : N ≤ 999999990) : Small d := by
  have h1 := queue_le h.1
  have h2 := urgent_le h.1
  have h3 := goods_le h.1
  have h4 := h.1.wlen
  have h5 := h.1.conf
  have h6 := hb.1
  exact ⟨by omega, by omega, by omega, by omega, by omega, by omega, fun j hj => Nat.le_trans (hb.2 j hj) hN⟩
theorem ask_of {d : DeskM} (h : DU d) (hs : Small d) : Ask d := ⟨h.1, h.2, hs.2.2.2.2.2⟩
theorem pPick : PPickOK kitP DU := fun F w b d i h hI hs hF => ppick_ok F w b d i h (ask_of hI hs) hF
theorem rPick : RPickOK DU := fun F w rb d v i h hI hs hF => refPick_any F w rb d v i h (ask_of hI hs) hF
theorem pKill : PKillOK kitP DU := fun F w b d i h hI hs hF => pkill_ok F w b d i h (ask_of hI hs) hF
theorem rKill : RKillOK DU := fun F w rb d v i h hI hs hF => refKill_any F w rb d v i h (ask_of hI hs) hF
theorem pCancel : PCancelOK kitP DU := fun F w b d n h hI hs hF => pcancel_ok F w b d n h (ask_of hI hs) hF
theorem rCancel : RCancelOK DU := fun F w rb d v n h _ hs hF => refCancel_any F w rb d v n h hs.1 ⟨hs.2.1, hs.2.2.1, hs.2.2.2.1⟩ hF
theorem pSub : PSubOK kitP DU := fun F w b d sv l h hI hs hv _ hF => psubmit_ok F w b d sv l h (ask_of hI hs) hv hF
theorem du_pick (d : DeskM) (i : Int) (h : DU d) : DU (d.pick i).1 := ⟨h.1.pick i, UInv.pick h.1 h.2 i⟩
theorem du_kill (d : DeskM) (i : Int) (h : DU d) : DU (d.kill i).1 := ⟨h.1.kill i, UInv.kill h.1 h.2 i⟩
theorem du_cancel (d : DeskM) (n : Int) (h : DU d) : DU (d.cancel n).1 := ⟨h.1.cancel n, UInv.cancel h.1 h.2 n⟩
theorem du_sub (d : DeskM) (l : List St) (h : DU d) : DU (d.submit l).1 := ⟨h.1.submit l, UInv.submit h.1 h.2 l⟩
theorem du_pickN (d : DeskM) (i : Int) (h : DU d) : ∀ n, DU (pickN d i n)
  | 0 => h
  | n + 1 => du_pick _ i (du_pickN d i h n)
theorem bd_pickN {N : Nat} {d : DeskM} (h : Bd N d) (i : Int) : ∀ n, Bd (N + n) (pickN d i n)
  | 0 => h
  | n + 1 => (bd_pickN h i n).pick i
theorem told_200 {d : DeskM} (h : DInv d) (i : Nat) (hi : i < d.jobs.length) : (d.jobs.getD i jobM0).told.length ≤ 200 := by
  have hhas : d.Has (i + 1) := ⟨by omega, by omega⟩
  have e : d.jobs.getD i jobM0 = d.job (i + 1) := rfl
  rw [e]
  have hs := (h.jobs _ hhas).2
  by_cases ho : 3 ≤ (d.job (i + 1)).state ∧ (d.job (i + 1)).state ≤ 5
  · obtain ⟨g, hg, ht⟩ := h.g.gall _ hhas ho
    have h1 := (h.g.gjob g hg).2.2
    rw [ht] at h1
    rw [h1]
    have hc := h.conf
    have h3 := play_told (d.gL g) (mapF (d.goods.take (gAt d.goods g).beg)) d.c.fuel mo0
    have h4 : mo0.told.length = 0 := rfl
    show (play (d.gL g) (mapF (d.goods.take (gAt d.goods g).beg)) d.c.fuel mo0).told.length ≤ 200
    omega
  · rw [h.quiet _ hhas (by omega)]
    simp
def opD (o : OpM) (d : DeskM) : DeskM :=
  if o.kind = 2 then (d.submit o.l).1 else if o.kind = 3 then pickN d o.a ((pickI o.n 64).toNat + 1) else if o.kind = 6 then (d.cancel o.a).1 else if o.kind = 7 then (d.kill o.a).1 else d
theorem pick64 (n : Int) : (pickI n 64).toNat + 1 ≤ 64 := by
  have h : pickI n 64 < 64 ∧ 0 ≤ pickI n 64 := by
    unfold pickI
    split
    · exact ⟨Int.emod_lt_of_pos _ (by decide), Int.emod_nonneg _ (by decide)⟩
    · exact ⟨Int.emod_lt_of_pos _ (by decide), Int.emod_nonneg _ (by decide)⟩
  omega
theorem opD_bd {N : Nat} {o : OpM} {d : DeskM} (h : Bd N d) : Bd (N + 64) (opD o d) := by
  unfold opD
  split
  · exact (h.submit _).mono (by omega)
  · split
    · exact (bd_pickN h _ _).mono (by have := pick64 o.n; omega)
    · split
      · exact (h.cancel _).mono (by omega)
      · split
        · exact (h.kill _).mono (by omega)
        · exact h.mono (by omega)
theorem onDesk_all (W0 : World) (own : Nat → Nat) (W : World) (pb : Nat) (dv : Value) (one : Bool) (iv pv : Value) (vs ps : List Value) (ds : List DP) (i : Nat) (o : OpM) (N : Nat)
    (h : LA kitP DU W0.heap.size own W pb dv one iv pv vs ps ds) (hi : i < ds.length) (hk : 2 ≤ o.kind ∧ o.kind ≤ 7) (hvs : vs.length ≤ 1000000000000) (hps : ps.length ≤ 1000000000000) (hbd : Bd N (ds.getD i dp0).d) (hN : N ≤ 900000000) (hon : i64B o.n) (hb0 : Below W0.heap.size W0 W) (hv : StepsV W0 o.sv o.l) (hl : o.l.length * 32 ≤ 140737488351232) :
    Calls Tryz.prog 16 #[.pointer (some ⟨pb, 0, none⟩), ptrV (ds.getD i dp0).p, opV o] W fun e W' => OnD kitP DU W0.heap.size W pb dv one vs ps ds i (opD o (ds.getD i dp0).d) e W' := by
  have hI := h.inv i hi
  have hs := small_of hI hbd (by omega)
  have hj := hs.1
  have hg := hs.2.2.2.2.1
  have hk' : o.kind = 2 ∨ o.kind = 3 ∨ o.kind = 4 ∨ o.kind = 5 ∨ o.kind = 6 ∨ o.kind = 7 := by omega
  rcases hk' with hk | hk | hk | hk | hk | hk
  · have e : opD o (ds.getD i dp0).d = ((ds.getD i dp0).d.submit o.l).1 := by unfold opD; rw [if_pos hk]
    rw [e]
    exact onDesk_submit kitP DU pSub du_sub W0 _ own W pb dv one iv pv vs ps ds i o h hi hk hs rfl hb0 hv hl
  · have e : opD o (ds.getD i dp0).d = pickN (ds.getD i dp0).d o.a ((pickI o.n 64).toNat + 1) := by unfold opD; rw [if_neg (by omega), if_pos hk]
    rw [e]
    exact onDesk_pick kitP DU pPick rPick du_pick _ own W pb dv one iv pv vs ps ds i o h hi hk hon (fun j hj => small_of (du_pickN _ _ hI j) (bd_pickN hbd o.a j) (by omega))
  · have e : opD o (ds.getD i dp0).d = (ds.getD i dp0).d := by unfold opD; rw [if_neg (by omega), if_neg (by omega), if_neg (by omega), if_neg (by omega)]
    rw [e]
    exact onDesk_poll kitP DU _ own W pb dv one iv pv vs ps ds i o h hi hk hvs (by omega) (fun k hk => told_200 hI.1 k hk)
  · have e : opD o (ds.getD i dp0).d = (ds.getD i dp0).d := by unfold opD; rw [if_neg (by omega), if_neg (by omega), if_neg (by omega), if_neg (by omega)]
    rw [e]
    exact onDesk_map kitP DU _ own W pb dv one iv pv vs ps ds i o h hi hk hps (by omega)
  · have e : opD o (ds.getD i dp0).d = ((ds.getD i dp0).d.cancel o.a).1 := by unfold opD; rw [if_neg (by omega), if_neg (by omega), if_pos hk]
    rw [e]
    exact onDesk_cancel kitP DU pCancel rCancel du_cancel _ own W pb dv one iv pv vs ps ds i o h hi hk hs
  · have e : opD o (ds.getD i dp0).d = ((ds.getD i dp0).d.kill o.a).1 := by unfold opD; rw [if_neg (by omega), if_neg (by omega), if_neg (by omega), if_pos hk]
    rw [e]
    exact onDesk_kill kitP DU pKill rKill du_kill _ own W pb dv one iv pv vs ps ds i o h hi hk hs
theorem checked_any (v : Value) (l : List St) (w : World) (h : StepsV w v l) (hl : l.length * 32 ≤ 140737488351232) :
    Calls Tryz.prog 13 #[v] w fun e w' => e = .returned (.bool true) ∧ Below w.heap.size w w' := by
  have H : Hid (StepsV w v l) := h
  clear h
  go_enter Tryz.func13, Tryz.ntmps13
  go_wp2_with (go_at_call 23; refine (roomy_any _ l _ H.out hl).mono ?_; rintro e w1 ⟨g, rfl, hg1, hg2, hst1, hb1⟩)
  have HS : Hid (StepsAt w1 g 0 (l ++ [stw])) := hst1
  clear hst1
  have hroom : Hid (StepsV w1 (.slice (some ⟨g, 0, none⟩) l.length (l.length + 1)) l) := ⟨_, _, rfl, Or.inr ⟨g, 0, rfl, hg2, fun i hi => by
    have := HS.out i (by simp; omega)
    rwa [show (l ++ [stw]).getD i stz = l.getD i stz by simp [List.getD, List.getElem?_append_left hi]] at this⟩⟩
  go_wp2_with (go_at_call 24; refine (check_any _ l _ hroom.out).mono ?_; rintro e w2 ⟨rfl, hb2⟩)
  go_wp2_with (go_at_call 25; refine (refCheck_any _ l _ ((H.out.below hb1).below hb2)).mono ?_; rintro e w3 ⟨rfl, hb3⟩)
  have hsz : g < w3.heap.size := by have := hb2.size; have := hb3.size; omega
  go_wp2_with (go_at_call 26; refine (still_any g _ l _ (by omega) hsz ((HS.out.below hb2 hg2).below hb3 (by have := hb2.size; omega)) (((H.out.below hb1).below hb2).below hb3)).mono ?_; rintro e w4 ⟨rfl, hb4⟩)
  go_ret
  exact ⟨rfl, ((hb1.trans (hb2.mono hb1.size)).trans (hb3.mono (Nat.le_trans hb1.size hb2.size))).trans (hb4.mono (Nat.le_trans (Nat.le_trans hb1.size hb2.size) hb3.size))⟩
end Go.Proofs.YtlbmcdoldnajoaaGreat
