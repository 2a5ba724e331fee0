import Derived.Test.YtlbmcdoldnajoaaGreatLawG
import Derived.Test.YtlbmcdoldnajoaaGreatRefC
import Derived.Test.YtlbmcdoldnajoaaGreatRefF
set_option maxRecDepth 100000
set_option maxHeartbeats 1000000
namespace Go.Proofs.YtlbmcdoldnajoaaGreat
open Go.RowKit
def ownF (own : Nat → Nat) (s0 s1 c : Nat) (k : Nat) : Prop := (k < s0 ∧ own k = c) ∨ s1 ≤ k
def ownB (own : Nat → Nat) (s0 s1 s2 s3 i : Nat) (k : Nat) : Nat := if k < s0 then own k else if k < s1 then 1 else if k < s2 then 2 * i + 2 else if k < s3 then 2 * i + 3 else 1
theorem getD_set_dp {l : List DP} {i : Nat} (hi : i < l.length) (t : DP) : (l.set i t).getD i dp0 = t := by simp [List.getD, hi]
theorem getD_set_dpn {l : List DP} {i j : Nat} (h : j ≠ i) (t : DP) : (l.set i t).getD j dp0 = l.getD j dp0 := by simp [List.getD, List.getElem?_set_ne (Ne.symm h)]
theorem map_set_p (l : List DP) {i : Nat} (hi : i < l.length) (t : DP) (ht : t.p = (l.getD i dp0).p) : (l.set i t).map (fun t => ptrV t.p) = l.map (fun t => ptrV t.p) := by
  apply List.ext_getElem?
  intro j
  rw [List.getElem?_map, List.getElem?_map]
  by_cases e : i = j
  · subst e
    have e2 : l.getD i dp0 = l[i] := by simp [List.getD, hi]
    rw [e2] at ht
    simp [hi, ht]
  · rw [List.getElem?_set_ne e]
theorem LA.pxF {K : DeskKit} {Inv : DeskM → Prop} {B : Nat} {own : Nat → Nat} {W W1 : World} {pb : Nat} {dv : Value} {one : Bool} {iv pv : Value} {vs ps : List Value} {ds : List DP} (h : LA K Inv B own W pb dv one iv pv vs ps ds) {i : Nat} (hi : i < ds.length) (hb : Below W.heap.size W W1) : K.PD (ownF own W.heap.size W1.heap.size (2 * i + 2)) W1 (ds.getD i dp0).x (ds.getD i dp0).d :=
  K.fr (R := fun _ => False) (K.mono (h.px i hi) (fun _ hk e => Or.inl ⟨hk, e⟩)) (Fr.of_below hb) (fun _ _ hs => hs)
theorem LA.pyF {K : DeskKit} {Inv : DeskM → Prop} {B : Nat} {own : Nat → Nat} {W W1 W2 : World} {pb : Nat} {dv : Value} {one : Bool} {iv pv : Value} {vs ps : List Value} {ds : List DP} (h : LA K Inv B own W pb dv one iv pv vs ps ds) {i : Nat} (hi : i < ds.length) (hb : Below W.heap.size W W1) (hx : Fr (ownF own W.heap.size W1.heap.size (2 * i + 2)) W1 W2) :
    RD (ownF own W.heap.size W2.heap.size (2 * i + 3)) W2 (ds.getD i dp0).y (ds.getD i dp0).d (ds.getD i dp0).v := by
  have r0 : RD (fun k => k < W.heap.size ∧ own k = 2 * i + 3) W (ds.getD i dp0).y (ds.getD i dp0).d (ds.getD i dp0).v := (h.py i hi).mono (fun k hk e => ⟨hk, e⟩)
  have r1 := (r0.below hb).fr hx (fun k hk hr => by
    rcases hr with hr | hr
    · omega
    · have := hb.size; omega)
  exact r1.mono (fun k _ hk => Or.inl hk)
theorem LA.both {K : DeskKit} {Inv : DeskM → Prop} {B : Nat} {own : Nat → Nat} {W W1 W2 W3 : World} {pb : Nat} {dv : Value} {one : Bool} {iv pv : Value} {vs ps : List Value} {ds : List DP} (h : LA K Inv B own W pb dv one iv pv vs ps ds) {i : Nat} (hi : i < ds.length) (hb : Below W.heap.size W W1)
    (hx : Fr (ownF own W.heap.size W1.heap.size (2 * i + 2)) W1 W2) {d' : DeskM} {v' : RV} (pd : K.PD (ownF own W.heap.size W1.heap.size (2 * i + 2)) W2 (ds.getD i dp0).x d') (hy : Fr (ownF own W.heap.size W2.heap.size (2 * i + 3)) W2 W3) (rd : RD (ownF own W.heap.size W2.heap.size (2 * i + 3)) W3 (ds.getD i dp0).y d' v') (hinv : Inv d') :
    LA K Inv B (ownB own W.heap.size W1.heap.size W2.heap.size W3.heap.size i) W3 pb dv one iv pv vs ps (ds.set i ⟨(ds.getD i dp0).p, (ds.getD i dp0).x, (ds.getD i dp0).y, d', v'⟩) ∧ Below B W W3 := by
  have s0 := hb.size
  have s1 := hx.size
  have s2 := hy.size
  have sB := h.size
  -- what neither call writes
  have hxy : Fr (fun k => (k < W.heap.size ∧ (own k = 2 * i + 2 ∨ own k = 2 * i + 3)) ∨ W1.heap.size ≤ k) W1 W3 := (hx.mono (fun k _ hk => by
    rcases hk with hk | hk
    · exact Or.inl ⟨hk.1, Or.inl hk.2⟩
    · exact Or.inr hk)).trans hy (fun k hl hk => by
    rcases hk with hk | hk
    · exact Or.inl ⟨hk.1, Or.inr hk.2⟩
    · exact Or.inr (by omega))
  have hall : Fr (fun k => k < W.heap.size ∧ (own k = 2 * i + 2 ∨ own k = 2 * i + 3)) W W3 := ⟨hxy.os.trans hb.os, hxy.tape.trans hb.tape, hxy.output.trans hb.output, by omega, fun k hk hn => (hxy.block k (by omega) (fun hr => by
    rcases hr with hr | hr
    · exact hn hr
    · omega)).trans (hb.block k hk)⟩
  have e0 : ∀ k, k < W.heap.size → ownB own W.heap.size W1.heap.size W2.heap.size W3.heap.size i k = own k := fun k hk => if_pos hk
  have e1 : ∀ k, W1.heap.size ≤ k → k < W2.heap.size → ownB own W.heap.size W1.heap.size W2.heap.size W3.heap.size i k = 2 * i + 2 := fun k h1 h2 => by unfold ownB; rw [if_neg (by omega), if_neg (by omega), if_pos h2]
  have e2 : ∀ k, W2.heap.size ≤ k → k < W3.heap.size → ownB own W.heap.size W1.heap.size W2.heap.size W3.heap.size i k = 2 * i + 3 := fun k h1 h2 => by unfold ownB; rw [if_neg (by omega), if_neg (by omega), if_neg (by omega), if_pos h2]
  have hA := h.reown (own' := ownB own W.heap.size W1.heap.size W2.heap.size W3.heap.size i) e0 (fun k hk => by
    by_cases hl : k < W.heap.size
    · rw [e0 k hl] at hk; exact h.ge k hk
    · omega)
  have hn1 : ∀ k, k < W.heap.size → own k = 1 → ¬ (k < W.heap.size ∧ (own k = 2 * i + 2 ∨ own k = 2 * i + 3)) := fun k _ h1 h2 => by omega
  have hlen : (ds.set i ⟨(ds.getD i dp0).p, (ds.getD i dp0).x, (ds.getD i dp0).y, d', v'⟩).length = ds.length := List.length_set ..
  refine ⟨?_, hall.below (fun k hk => h.ge k (by rcases hk.2 with e | e <;> rw [e] <;> omega)) sB⟩
  constructor
  · exact h.lw.frL hall (fun k hk => hn1 k (h.lw.ltL hk) (h.lo k hk))
  · exact hA.lo
  · rw [hlen, map_set_p ds hi ⟨(ds.getD i dp0).p, (ds.getD i dp0).x, (ds.getD i dp0).y, d', v'⟩ rfl]
    exact owns_fr h.row hall (fun k hk => hn1 k (owns_lt h.row hk).2 (h.ro k hk))
  · exact hA.ro
  · intro j hj
    rw [hlen] at hj
    have hp : W3.heap[(ds.getD j dp0).p]? = some (.cells #[ptrV (ds.getD j dp0).x, ptrV (ds.getD j dp0).y] 50 (0, 0)) := hall.blk (h.pr j hj).2 (hn1 _ (blk_lt (h.pr j hj).2) (h.pr j hj).1)
    by_cases e : j = i
    · subst e
      rw [getD_set_dp hi]
      exact ⟨(hA.pr j hj).1, hp⟩
    · rw [getD_set_dpn e]
      exact ⟨(hA.pr j hj).1, hp⟩
  · intro j hj
    rw [hlen] at hj
    by_cases e : j = i
    · subst e
      rw [getD_set_dp hi]
      have p1 : K.PD (fun k => (k < W.heap.size ∧ own k = 2 * j + 2) ∨ (W1.heap.size ≤ k ∧ k < W2.heap.size)) W2 (ds.getD j dp0).x d' := K.mono pd (fun k hk hF => by
        rcases hF with hF | hF
        · exact Or.inl hF
        · exact Or.inr ⟨hF, hk⟩)
      have p2 := K.fr p1 hy (fun k hk hr => by
        rcases hk with hk | hk <;> rcases hr with hr | hr <;> omega)
      exact K.mono p2 (fun k _ hk => by
        rcases hk with hk | hk
        · exact (e0 k hk.1).trans hk.2
        · exact e1 k hk.1 hk.2)
    · rw [getD_set_dpn e]
      have p1 : K.PD (fun k => k < W.heap.size ∧ own k = 2 * j + 2) W (ds.getD j dp0).x (ds.getD j dp0).d := K.mono (h.px j hj) (fun k hk hF => ⟨hk, hF⟩)
      have p2 := K.fr p1 hall (fun k hk hr => by omega)
      exact K.mono p2 (fun k _ hk => (e0 k hk.1).trans hk.2)
  · intro j hj
    rw [hlen] at hj
    by_cases e : j = i
    · subst e
      rw [getD_set_dp hi]
      exact rd.mono (fun k hk hF => by
        rcases hF with hF | hF
        · exact (e0 k hF.1).trans hF.2
        · exact e2 k hF hk)
    · rw [getD_set_dpn e]
      have p1 : RD (fun k => k < W.heap.size ∧ own k = 2 * j + 3) W (ds.getD j dp0).y (ds.getD j dp0).d (ds.getD j dp0).v := (h.py j hj).mono (fun k hk hF => ⟨hk, hF⟩)
      have p2 := p1.fr hall (fun k hk hr => by omega)
      exact p2.mono (fun k _ hk => (e0 k hk.1).trans hk.2)
  · intro j hj
    rw [hlen] at hj
    by_cases e : j = i
    · subst e; rw [getD_set_dp hi]; exact hinv
    · rw [getD_set_dpn e]; exact h.inv j hj
  · exact hA.ge
def PStep (K : DeskKit) (F : Nat → Prop) (w : World) (b : Nat) (d' : DeskM) (r : Value) (e : Ending) (w' : World) : Prop := e = .returned r ∧ K.PD F w' b d' ∧ Fr F w w'
def Small (d : DeskM) : Prop := d.jobs.length ≤ 1000000000 ∧ d.queue.length ≤ 1000000000 ∧ d.urgent.length ≤ 1000000000 ∧ d.workers.length ≤ 1000 ∧ d.goods.length ≤ 1000000000 ∧ d.jobs.length ≤ 999999990 ∧ ∀ j ∈ d.jobs, j.tries ≤ 999999990
def pickV (d : DeskM) (i : Int) : Value := .tuple #[noteV (d.pick i).2.1, .int .i64 (d.pick i).2.2]
def RPickOK (Inv : DeskM → Prop) : Prop := ∀ (F : Nat → Prop) (w : World) (rb : Nat) (d : DeskM) (v : RV) (i : Int), RD F w rb d v → Inv d → Small d → (∀ k, w.heap.size ≤ k → F k) →
  Calls Tryz.prog 60 #[ptrV rb, .int .i64 i] w fun e w' => RStep F w rb (d.pick i).1 (pickV d i) e w'
def PPickOK (K : DeskKit) (Inv : DeskM → Prop) : Prop := ∀ (F : Nat → Prop) (w : World) (b : Nat) (d : DeskM) (i : Int), K.PD F w b d → Inv d → Small d → (∀ k, w.heap.size ≤ k → F k) →
  Calls Tryz.prog 59 #[ptrV b, .int .i64 i] w fun e w' => PStep K F w b (d.pick i).1 (pickV d i) e w'
def pickN (d : DeskM) (i : Int) : Nat → DeskM
  | 0 => d
  | n + 1 => ((pickN d i n).pick i).1
def PickRel (K : DeskKit) (Inv : DeskM → Prop) (B : Nat) (W : World) (pb : Nat) (dv : Value) (one : Bool) (iv pv : Value) (vs ps : List Value) (ds : List DP) (i : Nat) (d : DeskM) (wr : World) : Prop :=
  ∃ own' v', LA K Inv B own' wr pb dv one iv pv vs ps (ds.set i ⟨(ds.getD i dp0).p, (ds.getD i dp0).x, (ds.getD i dp0).y, d, v'⟩) ∧ Below B W wr
theorem set_self_dp {l : List DP} {i : Nat} (hi : i < l.length) : l.set i ⟨(l.getD i dp0).p, (l.getD i dp0).x, (l.getD i dp0).y, (l.getD i dp0).d, (l.getD i dp0).v⟩ = l := by
  apply List.ext_getElem?
  intro j
  by_cases e : i = j
  · subst e
    simp [hi]
  · rw [List.getElem?_set_ne e]
theorem picked_any (K : DeskKit) (Inv : DeskM → Prop) (hP : PPickOK K Inv) (hR : RPickOK Inv) (hIn : ∀ d i, Inv d → Inv (d.pick i).1) (B : Nat) (own : Nat → Nat) (W : World) (pb : Nat) (dv : Value) (one : Bool) (iv pv : Value) (vs ps : List Value) (ds : List DP) (i n : Nat) (wk : Int)
    (h : LA K Inv B own W pb dv one iv pv vs ps ds) (hi : i < ds.length) (hn : n ≤ 1000) (hs : ∀ j, j ≤ n → Small (pickN (ds.getD i dp0).d wk j)) :
    Calls Tryz.prog 34 #[ptrV (ds.getD i dp0).p, .int .i64 wk, .int .i64 (n : Int)] W fun e W' => e = .returned (.bool true) ∧ PickRel K Inv B W pb dv one iv pv vs ps ds i (pickN (ds.getD i dp0).d wk n) W' := by
  have HP : Hid (PPickOK K Inv) := hP
  have HR : Hid (RPickOK Inv) := hR
  have HIn : Hid (∀ d i, Inv d → Inv (d.pick i).1) := hIn
  have HS : Hid (∀ j, j ≤ n → Small (pickN (ds.getD i dp0).d wk j)) := hs
  have HI : Hid (i < ds.length) := hi
  have H0 : Hid (PickRel K Inv B W pb dv one iv pv vs ps ds i (pickN (ds.getD i dp0).d wk 0) W) := ⟨own, (ds.getD i dp0).v, by rw [pickN, set_self_dp hi]; exact h, Below.refl _ _⟩
  obtain ⟨t, ht⟩ : ∃ t, t = ds.getD i dp0 := ⟨_, rfl⟩
  have HT : Hid (ds.getD i dp0 = t) := ht.symm
  rw [← ht] at H0 HS ⊢
  clear h hP hR hIn hs ht hi
  unfold ptrV
  go_enter Tryz.func34, Tryz.ntmps34
  go_wp2
  go_loopw [7] (fun q wr => ∃ j : Nat, j ≤ n ∧ q = .int .i64 j ∧ PickRel K Inv B W pb dv one iv pv vs ps ds i (pickN t.d wk j) wr) (fun q _ => n - (intOf q).toNat)
  case atStart => exact ⟨0, Nat.zero_le _, rfl, H0.out⟩
  case round =>
    obtain ⟨j, hj, rfl, hrel⟩ := hrel
    have HRel : Hid (PickRel K Inv B W pb dv one iv pv vs ps ds i (pickN t.d wk j) wr) := hrel
    clear hrel H0
    by_cases hlt : j < n
    · obtain ⟨own1, v1, hL, hb⟩ := HRel.out
      have hi2 : i < (ds.set i ⟨(ds.getD i dp0).p, (ds.getD i dp0).x, (ds.getD i dp0).y, pickN t.d wk j, v1⟩).length := by rw [List.length_set]; exact HI.out
      have hgd := getD_set_dp HI.out (⟨(ds.getD i dp0).p, (ds.getD i dp0).x, (ds.getD i dp0).y, pickN t.d wk j, v1⟩ : DP)
      have c0 := hL.cx hi2
      have c1 := hL.cy hi2
      have hpl := blk_lt (hL.pr i hi2).2
      rw [hgd, HT.out] at c0 c1 hpl
      have HL : Hid (LA K Inv B own1 wr pb dv one iv pv vs ps (ds.set i ⟨(ds.getD i dp0).p, (ds.getD i dp0).x, (ds.getD i dp0).y, pickN t.d wk j, v1⟩)) := hL
      have hown : own1 t.p = 1 := by have := (hL.pr i hi2).1; rw [hgd, HT.out] at this; exact this
      have hpd := hL.pxF hi2 (Below.refl _ _)
      rw [hgd] at hpd
      have HPd : Hid (K.PD (ownF own1 wr.heap.size wr.heap.size (2 * i + 2)) wr (ds.getD i dp0).x (pickN t.d wk j)) := hpd
      have HInv : Hid (Inv (pickN t.d wk j)) := by have := hL.inv i hi2; rw [hgd] at this; exact this
      have HSm : Hid (Small (pickN t.d wk j)) := HS.out j (by omega)
      have m1 : (j : Int) < (n : Int) := by omega
      clear hL hpd hb
      go_wp2_with fail
      have hpk := HP.out _ wr (ds.getD i dp0).x (pickN t.d wk j) wk HPd.out HInv.out HSm.out (fun k hk => Or.inr hk)
      rw [HT.out] at hpk
      refine hpk.mono ?_
      clear hpk
      rintro e W1 ⟨rfl, hpd1, hfr1⟩
      have HP1 : Hid (K.PD (ownF own1 wr.heap.size wr.heap.size (2 * i + 2)) W1 t.x (pickN t.d wk (j + 1)) ∧ Fr (ownF own1 wr.heap.size wr.heap.size (2 * i + 2)) wr W1) := ⟨hpd1, hfr1⟩
      have d1 : W1.cell? ⟨t.p, 1, none⟩ = _ := (hfr1.cell hpl (fun hr => by rcases hr with hr | hr; omega; omega)).trans c1
      obtain ⟨nt, hnt⟩ : ∃ nt, nt = ((pickN t.d wk j).pick wk).2.1 := ⟨_, rfl⟩
      obtain ⟨er, her⟩ : ∃ er, er = ((pickN t.d wk j).pick wk).2.2 := ⟨_, rfl⟩
      have HV : Hid (pickV (pickN t.d wk j) wk = .tuple #[noteV nt, .int .i64 er]) := by rw [hnt, her]; rfl
      rw [HV.out]
      obtain ⟨n1, n2, n3⟩ := nt
      unfold noteV natV
      simp only
      have hpl1 := Nat.lt_of_lt_of_le hpl hfr1.size
      have hsz1 := hfr1.size
      clear hpd1 hfr1 c0 c1 hnt her
      go_wp2_with fail
      refine name_calls (p := fun X => K.PD (ownF own1 wr.heap.size wr.heap.size (2 * i + 2)) X t.x (pickN t.d wk (j + 1)) ∧ Fr (ownF own1 wr.heap.size wr.heap.size (2 * i + 2)) wr X ∧ X.heap[W1.heap.size]? = some (.cells #[.int .i64 n1, .int .i64 (n2 : Int), .int .i64 (n3 : Int)] 122 (0, 0))) ⟨K.fr (R := fun _ => False) HP1.out.1 (Fr.of_below ((Below.refl _ _).alloc (Nat.le_refl _) _)) (fun _ _ hs => hs), HP1.out.2.alloc _, heap_alloc_new _ _⟩ ?_
      rintro X ⟨q1, q2, q3⟩
      have HX : Hid (K.PD (ownF own1 wr.heap.size wr.heap.size (2 * i + 2)) X t.x (pickN t.d wk (j + 1)) ∧ Fr (ownF own1 wr.heap.size wr.heap.size (2 * i + 2)) wr X ∧ X.heap[W1.heap.size]? = some (.cells #[.int .i64 n1, .int .i64 (n2 : Int), .int .i64 (n3 : Int)] 122 (0, 0))) := ⟨q1, q2, q3⟩
      have hbo := blk_lt q3
      clear q1 q2 q3 d1 HP1 hpl1
      generalize W1.heap.size = bo at *
      have hrd := HL.out.pyF hi2 (Below.refl _ _) HX.out.2.1
      rw [hgd] at hrd
      have hpk := HR.out _ X (ds.getD i dp0).y (pickN t.d wk j) v1 wk hrd HInv.out HSm.out (fun k hk => Or.inr hk)
      rw [HT.out] at hpk
      refine hpk.mono ?_
      clear hpk hrd
      rintro e W2 ⟨rfl, v2, hrd2, hfr2⟩
      rw [HV.out]
      unfold noteV natV
      simp only
      have HB : Hid (LA K Inv B (ownB own1 wr.heap.size wr.heap.size X.heap.size W2.heap.size i) W2 pb dv one iv pv vs ps (ds.set i ⟨(ds.getD i dp0).p, (ds.getD i dp0).x, (ds.getD i dp0).y, pickN t.d wk (j + 1), v2⟩) ∧ Below B wr W2) := by
        have := LA.both HL.out hi2 (Below.refl _ _) HX.out.2.1 (d' := pickN t.d wk (j + 1)) (v' := v2) (by rw [hgd, HT.out]; exact HX.out.1) hfr2 (by rw [hgd, HT.out]; exact hrd2) (HIn.out _ _ HInv.out)
        rw [hgd, List.set_set] at this
        exact this
      have hbx : W2.heap[bo]? = some (.cells #[.int .i64 n1, .int .i64 (n2 : Int), .int .i64 (n3 : Int)] 122 (0, 0)) := hfr2.blk HX.out.2.2 (fun hr => by rcases hr with hr | hr; omega; omega)
      have z0 : W2.cell? ⟨bo, 0, none⟩ = some (.int .i64 n1) := by rw [blk_cell hbx]; rfl
      have z1 : W2.cell? ⟨bo, 1, none⟩ = some (.int .i64 (n2 : Int)) := by rw [blk_cell hbx]; rfl
      have z2 : W2.cell? ⟨bo, 2, none⟩ = some (.int .i64 (n3 : Int)) := by rw [blk_cell hbx]; rfl
      have hb2 := blk_lt hbx
      have HBel : Hid (Below B W wr) := by obtain ⟨_, _, _, hb⟩ := HRel.out; exact hb
      clear hrd2 hfr2 hbx
      go_wp2
      go_roundw
      case rel => exact ⟨j + 1, by omega, by go_num, _, v2, HB.out.1.below ((Below.refl _ _).alloc (Nat.le_refl _) _), (HBel.out.trans HB.out.2).alloc (by have := HB.out.1.size; omega) _⟩
      case measure => simp [intOf]; omega
    · obtain rfl : j = n := by omega
      go_wp2
      go_ret
      exact ⟨rfl, HRel.out⟩
theorem roomy2_any (v : Value) (l : List St) (w : World) (h : StepsV w v l) (hl : l.length * 32 ≤ 140737488351232) :
    Calls Tryz.prog 23 #[v] w fun e w' => ∃ g, e = .returned (.slice (some ⟨g, 0, none⟩) l.length (l.length + 1)) ∧ w.heap.size ≤ g ∧ g < w'.heap.size ∧ StepsAt w' g 0 (l ++ [stw]) ∧ Below w.heap.size w w' ∧ ∃ cur, w'.heap[g]? = some (.cells cur 95 (0, 0)) := by
  obtain ⟨ao, cap, rfl, h⟩ := h
  obtain ⟨n, hn⟩ : ∃ n, n = l.length := ⟨_, rfl⟩
  have HN : Hid (n = l.length) := hn
  rw [← hn] at hl ⊢
  clear hn
  have HH : Hid (l = [] ∨ ∃ b off, ao = some ⟨b, off, none⟩ ∧ b < w.heap.size ∧ StepsAt w b off l) := h
  clear h
  obtain ⟨i0, hi, hz0, hz1, hz2⟩ := info_parts Tryz.infoStep
  go_enter Tryz.func23, Tryz.ntmps23
  go_wp2_with (at_make; refine wpList_make_full _ rfl _ _ 35 rfl w.heap.size 95 i0 _ 4 Tryz.underlying35 hi hz0 hz1 _ _ _ _ (n + 1) rfl rfl (by omega) (by omega) ?b2 ?b3 (Nat.le_refl _) ?_)
  case b2 => rw [hz2]; omega
  case b3 => unfold maxLen; omega
  intro w1 hown hgrow
  obtain ⟨cur, hrow, hcl⟩ := owns_row hown
  have hb1 : Below w.heap.size w w1 := (Below.refl _ _).grown hgrow (Nat.le_refl _) (fun k h => by cases h)
  have hpos : Hid (0 < n → ∃ ad, ao = some ad ∧ ∀ j v, (stCells l)[j]? = some v → w1.cell? (ad.add j) = some v) := fun h0 => by
    rcases HH.out with rfl | ⟨b, off, rfl, hb, hs⟩
    · have := HN.out; simp at this; omega
    · exact ⟨_, rfl, (hs.below hb1 hb).cells⟩
  have hsize1 : w.heap.size < w1.heap.size := (Array.getElem?_eq_some_iff.1 hrow).1
  clear hown hgrow
  have HR : Hid (w1.heap[w.heap.size]? = some (.cells cur.toArray 95 (0, 0))) := hrow
  clear hrow
  go_wp2_with (refine wpList_copy_wide rfl (.tmp 8) (.tmp 9) 35 35 rfl 95 4 Tryz.underlying35 Tryz.sizeStep _ _ _ _ _ _ n rfl rfl (Nat.min_eq_left (Nat.le_succ n)) w.heap.size 0 cur 95 HR.out (stCells l) (by rw [length_stCells, HN.out]) (fun h0 => ⟨rfl, hpos.out h0⟩) (by rw [length_stCells, hcl, ← HN.out]; omega) (stCells_oneCell l) w.heap.size w hb1 (Nat.le_refl _) ?_)
  intro w2 hg2 hb2 hs2
  have hlen2 : (splice cur 0 (stCells l)).length = (n + 1) * 4 := by rw [length_splice _ _ _ (by rw [length_stCells, hcl, ← HN.out]; omega), hcl]
  have hcells : ∀ j, j < (n + 1) * 4 → ∃ x, w2.cell? ⟨w.heap.size, j, none⟩ = some x := fun j hj => by
    simp only [World.cell?, hg2.out]
    exact ⟨(splice cur 0 (stCells l))[j]'(by omega), by simp [hlen2, hj]⟩
  obtain ⟨x0, hx0⟩ := hcells (n * 4) (by omega)
  obtain ⟨x1, hx1⟩ := hcells (n * 4 + 1) (by omega)
  obtain ⟨x2, hx2⟩ := hcells (n * 4 + 2) (by omega)
  obtain ⟨x3, hx3⟩ := hcells (n * 4 + 3) (by omega)
  have hfr : ∀ j, w2.frozen? ⟨w.heap.size, j, none⟩ = false := fun j => by simp [World.frozen?, hg2.out]
  have hlt2 : w.heap.size < w2.heap.size := by omega
  clear hcells hs2 hsize1 hb1 hi hz0 hz1 hz2
  go_wp2_with (go_at_call 43; refine (wrong_any _).mono ?_; rintro e w' ⟨rfl, rfl⟩)
  go_ret
  have hst : StepsAt w2 w.heap.size 0 l := stepsAt_of_row (rest := cur.drop (stCells l).length) (by simpa [splice] using hg2.out)
  have hend := StepsAt.snoc (s := stw) hst (by rw [← HN.out, Nat.zero_add]; exact hx0) (by rw [← HN.out, Nat.zero_add]; exact hx1) (by rw [← HN.out, Nat.zero_add]; exact hx2) (by rw [← HN.out, Nat.zero_add]; exact hx3)
  rw [← HN.out, Nat.zero_add] at hend
  have hA := hend.alloc (by rw [size_set4]; exact hlt2) (.cells #[.int .i64 (-7), .int .i64 (-7), .int .i64 (-7), .int .i64 (-7)] 95)
  have hB := (below_set4 (b := w.heap.size) (o := n * 4) (s := stw) hb2 (Nat.le_refl _)).alloc (by rw [size_set4]; omega) (.cells #[.int .i64 (-7), .int .i64 (-7), .int .i64 (-7), .int .i64 (-7)] 95)
  unfold set4 at hA hB
  simp only [show stw.op = -7 from rfl, show stw.a = -7 from rfl, show stw.b = -7 from rfl, show stw.c = -7 from rfl] at hA hB
  exact ⟨w.heap.size, rfl, Nat.le_refl _, by simp; omega, hA, hB, _, (Below.heap_alloc _ _ _ (by simp; omega)).trans (blk_set (blk_set (blk_set (blk_set hg2.out _ _) _ _) _ _) _ _)⟩
def subV (d : DeskM) (l : List St) : Value := .tuple #[natV (d.submit l).2.1, .int .i64 (d.submit l).2.2]
def PSubOK (K : DeskKit) (Inv : DeskM → Prop) : Prop := ∀ (F : Nat → Prop) (w : World) (b : Nat) (d : DeskM) (sv : Value) (l : List St), K.PD F w b d → Inv d → Small d → StepsV w sv l → l.length * 32 ≤ 140737488351232 → (∀ k, w.heap.size ≤ k → F k) →
  Calls Tryz.prog 57 #[ptrV b, sv] w fun e w' => PStep K F w b (d.submit l).1 (subV d l) e w'
theorem submitted_any (K : DeskKit) (Inv : DeskM → Prop) (hP : PSubOK K Inv) (hIn : ∀ d l, Inv d → Inv (d.submit l).1) (B : Nat) (W0 : World) (own : Nat → Nat) (W : World) (pb : Nat) (dv : Value) (one : Bool) (iv pv : Value) (vs ps : List Value) (ds : List DP) (i : Nat) (sv : Value) (l : List St)
    (h : LA K Inv B own W pb dv one iv pv vs ps ds) (hi : i < ds.length) (hs : Small (ds.getD i dp0).d) (hB : B = W0.heap.size) (hb : Below B W0 W) (hv : StepsV W0 sv l) (hl : l.length * 32 ≤ 140737488351232) :
    Calls Tryz.prog 33 #[ptrV (ds.getD i dp0).p, sv] W fun e W' => e = .returned (.bool true) ∧ PickRel K Inv B W pb dv one iv pv vs ps ds i ((ds.getD i dp0).d.submit l).1 W' := by
  have HP : Hid (PSubOK K Inv) := hP
  have HIn : Hid (∀ d l, Inv d → Inv (d.submit l).1) := hIn
  have H : Hid (LA K Inv B own W pb dv one iv pv vs ps ds ∧ i < ds.length ∧ Small (ds.getD i dp0).d ∧ B = W0.heap.size) := ⟨h, hi, hs, hB⟩
  have HBW : Hid (Below B W0 W) := hb
  have HV0 : Hid (StepsV W0 sv l) := hv
  have HVW : Hid (StepsV W sv l) := by subst hB; exact hv.below hb
  have c0 := h.cx hi
  have c1 := h.cy hi
  have hpl := blk_lt (h.pr i hi).2
  have hown := (h.pr i hi).1
  obtain ⟨t, ht⟩ : ∃ t, t = ds.getD i dp0 := ⟨_, rfl⟩
  have HT : Hid (ds.getD i dp0 = t) := ht.symm
  rw [← ht] at c0 c1 hpl hown ⊢
  clear h hi hs hP hIn ht hb hv hB
  unfold ptrV
  go_enter Tryz.func33, Tryz.ntmps33
  go_wp2_with fail
  refine (roomy2_any _ l W HVW.out hl).mono ?_
  rintro e W1 ⟨g, rfl, hg1, hg2, hst1, hb1, hfz⟩
  have HS1 : Hid (StepsAt W1 g 0 (l ++ [stw])) := hst1
  have HB1 : Hid (Below W.heap.size W W1) := hb1
  have HFz : Hid (∃ cur, W1.heap[g]? = some (.cells cur 95 (0, 0))) := hfz
  have HV1 : Hid (StepsV W1 (.slice (some ⟨g, 0, none⟩) l.length (l.length + 1)) l) := ⟨_, _, rfl, Or.inr ⟨g, 0, rfl, hg2, fun q hq => by
    have := hst1 q (by simp; omega)
    rwa [show (l ++ [stw]).getD q stz = l.getD q stz by simp [List.getD, List.getElem?_append_left hq]] at this⟩⟩
  have d0 := (hb1.cell (p := ⟨t.p, 0, none⟩) hpl).trans c0
  have d1 := (hb1.cell (p := ⟨t.p, 1, none⟩) hpl).trans c1
  have hz1 := hb1.size
  clear hst1 hb1 hfz c0 c1
  go_wp2_with fail
  have hpd := H.out.1.pxF H.out.2.1 HB1.out
  have hsub := HP.out _ W1 (ds.getD i dp0).x (ds.getD i dp0).d _ l hpd (H.out.1.inv i H.out.2.1) H.out.2.2.1 HV1.out hl (fun k hk => Or.inr hk)
  rw [HT.out] at hsub
  refine hsub.mono ?_
  clear hsub hpd
  rintro e W2 ⟨rfl, hpd2, hfr2⟩
  have HP2 : Hid (K.PD (ownF own W.heap.size W1.heap.size (2 * i + 2)) W2 t.x (t.d.submit l).1 ∧ Fr (ownF own W.heap.size W1.heap.size (2 * i + 2)) W1 W2) := ⟨hpd2, hfr2⟩
  have f1 : W2.cell? ⟨t.p, 1, none⟩ = _ := (hfr2.cell (show t.p < _ by omega) (fun hr => by rcases hr with hr | hr; omega; omega)).trans d1
  have hz2 := hfr2.size
  have HV2 : Hid (StepsV W2 sv l) := by
    have hbb : Below W0.heap.size W0 W2 := ((H.out.2.2.2 ▸ HBW.out).trans (HB1.out.mono (by have := H.out.1.size; have := H.out.2.2.2; omega))).trans (hfr2.below (fun k hk => by
      rcases hk with hk | hk
      · have := H.out.1.ge k (by omega); have := H.out.2.2.2; omega
      · have := H.out.1.size; have := H.out.2.2.2; omega) (by have := H.out.1.size; have := H.out.2.2.2; omega))
    exact HV0.out.below hbb
  obtain ⟨m1, hm1⟩ : ∃ m, m = (t.d.submit l).2.1 := ⟨_, rfl⟩
  obtain ⟨m2, hm2⟩ : ∃ m, m = (t.d.submit l).2.2 := ⟨_, rfl⟩
  have HSv : Hid (subV t.d l = .tuple #[.int .i64 (m1 : Int), .int .i64 m2]) := by rw [hm1, hm2]; rfl
  rw [HSv.out]
  clear hpd2 hfr2 d0 d1
  go_wp2_with fail
  have hrd := H.out.1.pyF H.out.2.1 HB1.out HP2.out.2
  have hsub := refSubmit_any _ W2 (ds.getD i dp0).y (ds.getD i dp0).d (ds.getD i dp0).v sv l hrd HV2.out H.out.2.2.1.1 H.out.2.2.1.2.1 (fun k hk => Or.inr hk)
  rw [HT.out] at hsub
  refine hsub.mono ?_
  clear hsub hrd
  rintro e W3 ⟨rfl, v3, hrd3, hfr3⟩
  rw [← hm1, ← hm2]
  unfold natV
  have HB : Hid (LA K Inv B (ownB own W.heap.size W1.heap.size W2.heap.size W3.heap.size i) W3 pb dv one iv pv vs ps (ds.set i ⟨(ds.getD i dp0).p, (ds.getD i dp0).x, (ds.getD i dp0).y, (t.d.submit l).1, v3⟩) ∧ Below B W W3) :=
    LA.both H.out.1 H.out.2.1 HB1.out HP2.out.2 (d' := (t.d.submit l).1) (v' := v3) (by rw [HT.out]; exact HP2.out.1) hfr3 (by rw [HT.out]; exact hrd3) (HIn.out _ _ (by have := H.out.1.inv i H.out.2.1; rw [HT.out] at this; exact this))
  have hgk : W3.heap[g]? = W1.heap[g]? := (hfr3.block g (by omega) (fun hr => by rcases hr with hr | hr; omega; omega)).trans (HP2.out.2.block g hg2 (fun hr => by rcases hr with hr | hr; omega; omega))
  have HS3 : Hid (StepsAt W3 g 0 (l ++ [stw]) ∧ ∃ cur, W3.heap[g]? = some (.cells cur 95 (0, 0))) := ⟨HS1.out.same hgk, by obtain ⟨cur, hc⟩ := HFz.out; exact ⟨cur, hgk.trans hc⟩⟩
  have HV3 : Hid (StepsV W3 sv l) := by
    have hbb : Below W0.heap.size W0 W3 := (H.out.2.2.2 ▸ HBW.out).trans (H.out.2.2.2 ▸ HB.out.2)
    exact HV0.out.below hbb
  have hz3 := hfr3.size
  have hg3 : g < W3.heap.size := by omega
  clear hrd3 hfr3 hgk f1 hm1 hm2
  go_wp2_with fail
  refine (still_any g _ l W3 (by omega) hg3 HS3.out.1 HV3.out).mono ?_
  rintro e W4 ⟨rfl, hb4⟩
  have hl' : l.length ≤ 4398046511104 := by omega
  obtain ⟨L, hL⟩ : ∃ L, L = l.length := ⟨_, rfl⟩
  have HL : Hid (L = l.length) := hL
  rw [← hL] at hl' ⊢
  have H4 : Hid (LA K Inv B (ownB own W.heap.size W1.heap.size W2.heap.size W3.heap.size i) W4 pb dv one iv pv vs ps (ds.set i ⟨(ds.getD i dp0).p, (ds.getD i dp0).x, (ds.getD i dp0).y, (t.d.submit l).1, v3⟩) ∧ Below B W W4) := ⟨HB.out.1.below hb4, HB.out.2.trans (hb4.mono HB.out.1.size)⟩
  have HS4 : Hid (StepsAt W4 g 0 (l ++ [stw]) ∧ ∃ cur, W4.heap[g]? = some (.cells cur 95 (0, 0))) := ⟨HS3.out.1.below hb4 hg3, by obtain ⟨cur, hc⟩ := HS3.out.2; exact ⟨cur, (hb4.block _ hg3).trans hc⟩⟩
  have hg4 : g < W4.heap.size := Nat.lt_of_lt_of_le hg3 hb4.size
  clear hb4 HS3 HV3 HB HP2 HV1 HS1 HFz HV2 hL hl
  go_wp2
  go_loopw [11] (fun q wr => ∃ (j : Nat) (ls : List St), j ≤ L ∧ q = .int .i64 j ∧ ls.length = L + 1 ∧ StepsAt wr g 0 ls ∧ (∃ cur, wr.heap[g]? = some (.cells cur 95 (0, 0))) ∧ Fr (fun k => k = g) W4 wr) (fun q _ => L - (intOf q).toNat)
  case atStart => exact ⟨0, l ++ [stw], Nat.zero_le _, rfl, by simp [HL.out], HS4.out.1, HS4.out.2, Fr.refl _ _⟩
  case round =>
    obtain ⟨j, ls, hj, rfl, hls, hst, ⟨cur, hcur⟩, hfr⟩ := hrel
    clear HS4
    by_cases hlt : j < L
    · obtain ⟨s0, s1, s2, s3⟩ := hst j (by omega)
      simp only [Nat.zero_add] at s0 s1 s2 s3
      have HSt : Hid (StepsAt wr g 0 ls ∧ ls.length = L + 1 ∧ Fr (fun k => k = g) W4 wr) := ⟨hst, hls, hfr⟩
      generalize ls.getD j stz = sj at s0 s1 s2 s3
      have mj : (j : Int) < (L : Int) := by omega
      have hgw : g < wr.heap.size := Nat.lt_of_lt_of_le hg4 hfr.size
      have HCur : Hid (wr.heap[g]? = some (.cells cur 95 (0, 0))) := hcur
      have hfz : ∀ q, wr.frozen? ⟨g, q, none⟩ = false := fun q => blk_free hcur
      clear hst hls hfr hcur
      go_wp2_with (go_at_call 43; refine (wrong_any _).mono ?_; rintro e w' ⟨rfl, rfl⟩)
      go_roundw
      case rel =>
        refine ⟨j + 1, ls.set j stw, by omega, by go_num, by rw [List.length_set]; exact HSt.out.2.1, ?_, ?_, ?_⟩
        · have := HSt.out.1.set (s := stw) (k := j) (by have := HSt.out.2.1; omega)
          rw [Nat.zero_add] at this
          have hA := this.alloc (by rw [size_set4]; exact hgw) (.cells #[.int .i64 (-7), .int .i64 (-7), .int .i64 (-7), .int .i64 (-7)] 95)
          unfold set4 at hA
          exact hA
        · exact ⟨_, (Below.heap_alloc _ _ _ (by simp; omega)).trans (blk_set (blk_set (blk_set (blk_set HCur.out _ _) _ _) _ _) _ _)⟩
        · exact ((((HSt.out.2.2.setCell (p := ⟨g, _, none⟩) (fun _ => rfl) _).setCell (p := ⟨g, _, none⟩) (fun _ => rfl) _).setCell (p := ⟨g, _, none⟩) (fun _ => rfl) _).setCell (p := ⟨g, _, none⟩) (fun _ => rfl) _).alloc _
      case measure => simp [intOf]; omega
    · have HF : Hid (Fr (fun k => k = g) W4 wr) := hfr
      clear hst hls hfr hcur
      go_wp2
      go_ret
      have hlt0 : ∀ k, LWin pb iv pv vs ps k → k < W.heap.size := fun k hk => H.out.1.lw.ltL hk
      have hog : ownB own W.heap.size W1.heap.size W2.heap.size W3.heap.size i g = 1 := by unfold ownB; rw [if_neg (by omega), if_pos hg2]
      refine ⟨by simp, _, v3, H4.out.1.kept (H4.out.1.lw.frL HF.out (fun k hk e => by have := hlt0 k hk; have e : k = g := e; omega)) H4.out.1.lo HF.out (fun k e => by have e : k = g := e; rw [e]; exact hog) (fun k hk e => by have := (owns_lt H.out.1.row hk).2; have e : k = g := e; omega) (fun q hq e => ?_), H4.out.2.trans (HF.out.below (fun k e => by have e : k = g := e; have := H.out.1.size; omega) (by have := H.out.1.size; omega))⟩
      have hq' : q < ds.length := by rw [List.length_set] at hq; exact hq
      have hpq : ((ds.set i ⟨(ds.getD i dp0).p, (ds.getD i dp0).x, (ds.getD i dp0).y, (t.d.submit l).1, v3⟩).getD q dp0).p = (ds.getD q dp0).p := by
        by_cases eq : q = i
        · subst eq; rw [getD_set_dp hq']
        · rw [getD_set_dpn eq]
      have := blk_lt (H.out.1.pr q hq').2
      have e : ((ds.set i ⟨(ds.getD i dp0).p, (ds.getD i dp0).x, (ds.getD i dp0).y, (t.d.submit l).1, v3⟩).getD q dp0).p = g := e
      omega
end Go.Proofs.YtlbmcdoldnajoaaGreat
