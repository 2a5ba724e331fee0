/- The law's own World and its desks: what is kept from call to call. -/
import Derived.Test.YtlbmcdoldnajoaaRefD
namespace Go.Proofs.Ytlbmcdoldnajoaa
open Go.RowKit

/-- the blocks of the law's World: its own, its lists' -/
def LWin (pb : Nat) (iv pv : Value) (vs ps : List Value) (k : Nat) : Prop := k = pb ∨ iv.ownBlock = some k ∨ pv.ownBlock = some k ∨ (∃ (i : Nat) (v : Value), vs[i]? = some v ∧ v.ownBlock = some k) ∨ (∃ (i : Nat) (v : Value), ps[i]? = some v ∧ v.ownBlock = some k)

theorem LW.frL {B : Nat} {W W' : World} {R : Nat → Prop} {pb : Nat} {dv : Value} {one : Bool} {iv pv : Value} {vs ps : List Value} (h : LW B W pb dv one iv pv vs ps) (hf : Fr R W W') (hR : ∀ k, LWin pb iv pv vs ps k → ¬ R k) : LW B W' pb dv one iv pv vs ps :=
  ⟨h.bpb, hf.blk h.blk (hR _ (Or.inl rfl)), owns_fr h.ints hf (fun k hk => hR k (Or.inr (Or.inl hk))), owns_fr h.prs hf (fun k hk => hR k (Or.inr (Or.inr (Or.inl hk)))),
    fun i v hv => by obtain ⟨n, h1, h2⟩ := h.ki i v hv; exact ⟨n, h1, owns_fr h2 hf (fun k hk => hR k (Or.inr (Or.inr (Or.inr (Or.inl ⟨i, v, hv, hk⟩)))))⟩,
    fun i v hv => by obtain ⟨n, h1, h2⟩ := h.kp i v hv; exact ⟨n, h1, owns_fr h2 hf (fun k hk => hR k (Or.inr (Or.inr (Or.inr (Or.inr ⟨i, v, hv, hk⟩)))))⟩, h.i4, h.p4⟩
theorem LW.ltL {B : Nat} {W : World} {pb : Nat} {dv : Value} {one : Bool} {iv pv : Value} {vs ps : List Value} (h : LW B W pb dv one iv pv vs ps) {k : Nat} (hk : LWin pb iv pv vs ps k) : k < W.heap.size := by
  rcases hk with rfl | hk | hk | ⟨i, v, hv, hk⟩ | ⟨i, v, hv, hk⟩
  · exact blk_lt h.blk
  · exact (owns_lt h.ints hk).2
  · exact (owns_lt h.prs hk).2
  · obtain ⟨n, _, h2⟩ := h.ki i v hv; exact (owns_lt h2 hk).2
  · obtain ⟨n, _, h2⟩ := h.kp i v hv; exact (owns_lt h2 hk).2

/-- what Poll hands back: a list of its own -/
def PolledP (d : DeskM) (n : Int) (w : World) (e : Ending) (w' : World) : Prop :=
  ∃ tv, e = .returned (.tuple #[.agg #[.int .i64 (d.poll n).1, tv, .int .i64 (d.poll n).2.2.1], .int .i64 (d.poll n).2.2.2]) ∧ w'.ownsRow w.heap.size 3 1 tv (d.poll n).2.1.length ((d.poll n).2.1.map (Value.int .i64)) ∧ Below w.heap.size w w'

def confV (a b c d : Int) : Value := .agg #[.int .i64 a, .int .i64 b, .int .i64 c, .int .i64 d]
def NewP (PD : (Nat → Prop) → World → Nat → DeskM → Prop) (cf : ConfM) (w : World) (e : Ending) (w' : World) : Prop := ∃ b, e = .returned (.tuple #[ptrV b, .int .i64 0]) ∧ PD (fun k => w.heap.size ≤ k) w' b (desk0 cf) ∧ Below w.heap.size w w'

/-- a program's desk: how it lies in memory, and what New, Map and Poll do -/
structure DeskKit where
  PD : (Nat → Prop) → World → Nat → DeskM → Prop
  fr : ∀ {F R : Nat → Prop} {w w' : World} {b : Nat} {d : DeskM}, PD F w b d → Fr R w w' → (∀ k, F k → ¬ R k) → PD F w' b d
  mono : ∀ {F F' : Nat → Prop} {w : World} {b : Nat} {d : DeskM}, PD F w b d → (∀ k, k < w.heap.size → F k → F' k) → PD F' w b d
  new : ∀ (cf : ConfM) (w : World), confB cf.workers cf.queue cf.fuel cf.patience = true → Calls Try.prog 53 #[confV cf.workers cf.queue cf.fuel cf.patience] w fun e w' => NewP PD cf w e w'
  newBad : ∀ (a b c d : Int) (w : World), confB a b c d = false → Calls Try.prog 53 #[confV a b c d] w fun e w' => e = .returned (.tuple #[.pointer none, .int .i64 4]) ∧ Below w.heap.size w w'
  map : ∀ (F : Nat → Prop) (w : World) (b : Nat) (d : DeskM), PD F w b d → Calls Try.prog 33 #[ptrV b] w fun e w' => Aftered (mapF d.goods) w e w'
  poll : ∀ (F : Nat → Prop) (w : World) (b : Nat) (d : DeskM) (n : Int), PD F w b d → d.jobs.length ≤ 1000000000000 → (∀ i, i < d.jobs.length → (d.jobs.getD i jobM0).told.length ≤ 1000) → Calls Try.prog 37 #[ptrV b, .int .i64 n] w fun e w' => PolledP d n w e w'

/-- a pair of desks: its block, theirs; what they are -/
structure DP where
  p : Nat
  x : Nat
  y : Nat
  d : DeskM
  v : RV
def dp0 : DP := ⟨0, 0, 0, desk0 ⟨0, 0, 0, 0⟩, ⟨nilV, nilV, nilV, nilV, nilV, [], [], [], []⟩⟩

/-- all that the script has made. own: whose a block is: 0: not of these; 1: the law's; then two numbers a pair of desks -/
structure LA (K : DeskKit) (Inv : DeskM → Prop) (B : Nat) (own : Nat → Nat) (W : World) (pb : Nat) (dv : Value) (one : Bool) (iv pv : Value) (vs ps : List Value) (ds : List DP) : Prop where
  lw : LW B W pb dv one iv pv vs ps
  lo : ∀ k, LWin pb iv pv vs ps k → own k = 1
  row : W.ownsRow B 96 1 dv ds.length (ds.map fun t => ptrV t.p)
  ro : ∀ k, dv.ownBlock = some k → own k = 1
  pr : ∀ i, i < ds.length → own (ds.getD i dp0).p = 1 ∧ W.heap[(ds.getD i dp0).p]? = some (.cells #[ptrV (ds.getD i dp0).x, ptrV (ds.getD i dp0).y] 98 (0, 0))
  px : ∀ i, i < ds.length → K.PD (fun k => own k = 2 * i + 2) W (ds.getD i dp0).x (ds.getD i dp0).d
  py : ∀ i, i < ds.length → RD (fun k => own k = 2 * i + 3) W (ds.getD i dp0).y (ds.getD i dp0).d (ds.getD i dp0).v
  inv : ∀ i, i < ds.length → Inv (ds.getD i dp0).d
  ge : ∀ k, own k ≠ 0 → B ≤ k

namespace LA
variable {K : DeskKit} {Inv : DeskM → Prop} {B : Nat} {own : Nat → Nat} {W W' : World} {pb : Nat} {dv : Value} {one : Bool} {iv pv : Value} {vs ps : List Value} {ds : List DP}

theorem below (h : LA K Inv B own W pb dv one iv pv vs ps ds) (hb : Below W.heap.size W W') : LA K Inv B own W' pb dv one iv pv vs ps ds where
  lw := h.lw.below hb
  lo := h.lo
  row := owns_keep h.row hb
  ro := h.ro
  pr := fun i hi => ⟨(h.pr i hi).1, (hb.block _ (blk_lt (h.pr i hi).2)).trans (h.pr i hi).2⟩
  px := fun i hi => K.fr (R := fun _ => False) (h.px i hi) (Fr.of_below hb) (fun _ _ hs => hs)
  py := fun i hi => (h.py i hi).below hb
  inv := h.inv
  ge := h.ge
/-- other owners of blocks that are not there -/
theorem reown (h : LA K Inv B own W pb dv one iv pv vs ps ds) {own' : Nat → Nat} (he : ∀ k, k < W.heap.size → own' k = own k) (hg : ∀ k, own' k ≠ 0 → B ≤ k) : LA K Inv B own' W pb dv one iv pv vs ps ds where
  lw := h.lw
  lo := fun k hk => (he k (h.lw.ltL hk)).trans (h.lo k hk)
  row := h.row
  ro := fun k hk => (he k (owns_lt h.row hk).2).trans (h.ro k hk)
  pr := fun i hi => ⟨(he _ (blk_lt (h.pr i hi).2)).trans (h.pr i hi).1, (h.pr i hi).2⟩
  px := fun i hi => K.mono (h.px i hi) (fun k hk e => (he k hk).trans e)
  py := fun i hi => (h.py i hi).mono (fun k hk e => (he k hk).trans e)
  inv := h.inv
  ge := hg
/-- the law has written into its own -/
theorem kept (h : LA K Inv B own W pb dv one iv pv vs ps ds) {iv' pv' : Value} {vs' ps' : List Value} {R : Nat → Prop} (hlw : LW B W' pb dv one iv' pv' vs' ps') (hin : ∀ k, LWin pb iv' pv' vs' ps' k → own k = 1) (hf : Fr R W W') (hR : ∀ k, R k → own k = 1)
    (h1 : ∀ k, dv.ownBlock = some k → ¬ R k) (h2 : ∀ i, i < ds.length → ¬ R (ds.getD i dp0).p) : LA K Inv B own W' pb dv one iv' pv' vs' ps' ds where
  lw := hlw
  lo := hin
  row := owns_fr h.row hf h1
  ro := h.ro
  pr := fun i hi => ⟨(h.pr i hi).1, hf.blk (h.pr i hi).2 (h2 i hi)⟩
  px := fun i hi => K.fr (h.px i hi) hf (fun k hk hr => by have := hR k hr; have hk : own k = 2 * i + 2 := hk; omega)
  py := fun i hi => (h.py i hi).fr hf (fun k hk hr => by have := hR k hr; have hk : own k = 2 * i + 3 := hk; omega)
  inv := h.inv
  ge := h.ge
theorem cx (h : LA K Inv B own W pb dv one iv pv vs ps ds) {i : Nat} (hi : i < ds.length) : W.cell? ⟨(ds.getD i dp0).p, 0, none⟩ = some (.pointer (some ⟨(ds.getD i dp0).x, 0, none⟩)) := by rw [blk_cell (h.pr i hi).2]; rfl
theorem cy (h : LA K Inv B own W pb dv one iv pv vs ps ds) {i : Nat} (hi : i < ds.length) : W.cell? ⟨(ds.getD i dp0).p, 1, none⟩ = some (.pointer (some ⟨(ds.getD i dp0).y, 0, none⟩)) := by rw [blk_cell (h.pr i hi).2]; rfl
theorem size (h : LA K Inv B own W pb dv one iv pv vs ps ds) : B ≤ W.heap.size := by have := h.lw.bpb; have := blk_lt h.lw.blk; omega
end LA

/-- new blocks are the law's -/
def mine (own : Nat → Nat) (n : Nat) (k : Nat) : Nat := if k < n then own k else 1
theorem mine_old {own : Nat → Nat} {n k : Nat} (h : k < n) : mine own n k = own k := if_pos h
theorem mine_new {own : Nat → Nat} {n k : Nat} (h : n ≤ k) : mine own n k = 1 := if_neg (by omega)
theorem LA.mine {K : DeskKit} {Inv : DeskM → Prop} {B : Nat} {own : Nat → Nat} {W : World} {pb : Nat} {dv : Value} {one : Bool} {iv pv : Value} {vs ps : List Value} {ds : List DP} (h : LA K Inv B own W pb dv one iv pv vs ps ds) : LA K Inv B (mine own W.heap.size) W pb dv one iv pv vs ps ds :=
  h.reown (fun k hk => mine_old hk) (fun k hk => by
    by_cases hl : k < W.heap.size
    · rw [mine_old hl] at hk; exact h.ge k hk
    · have := h.size; omega)

/-- one list of numbers more -/
theorem LA.keptI {K : DeskKit} {Inv : DeskM → Prop} {B n0 : Nat} {own : Nat → Nat} {W W' : World} {pb : Nat} {dv : Value} {one : Bool} {iv pv : Value} {vs ps : List Value} {ds : List DP} {lv : Value} {n : Nat} {xs : List Value} (h : LA K Inv B (Go.Proofs.Ytlbmcdoldnajoaa.mine own n0) W pb dv one iv pv vs ps ds) (hn : n0 ≤ W.heap.size)
    (hl : W.ownsRow n0 3 1 lv n xs) {e : Ending} (hk : KeptI B W pb dv one iv pv vs ps lv e W') : e = .returned (.tuple #[]) ∧ ∃ iv' vs', LA K Inv B (Go.Proofs.Ytlbmcdoldnajoaa.mine own n0) W' pb dv one iv' pv vs' ps ds ∧ vs'.length = vs.length + 4 ∧ Below B W W' := by
  obtain ⟨he, iv', o1, o2, o3, L, F, N⟩ := hk
  have hlv : ∀ k, lv.ownBlock = some k → Go.Proofs.Ytlbmcdoldnajoaa.mine own n0 k = 1 := fun k hk => mine_new (owns_ge hl hk)
  have hR : ∀ k, (k = pb ∨ iv.ownBlock = some k ∨ lv.ownBlock = some k) → Go.Proofs.Ytlbmcdoldnajoaa.mine own n0 k = 1 := fun k hk => by
    rcases hk with hk | hk | hk
    · exact h.lo k (Or.inl hk)
    · exact h.lo k (Or.inr (Or.inl hk))
    · exact hlv k hk
  have hno : ∀ k, (iv'.ownBlock = some k ∨ o1.ownBlock = some k ∨ o2.ownBlock = some k ∨ o3.ownBlock = some k) → Go.Proofs.Ytlbmcdoldnajoaa.mine own n0 k = 1 := fun k hk => by
    by_cases hlt : k < W.heap.size
    · obtain ⟨q1, q2⟩ := N k hlt
      rcases hk with hk | hk
      · exact h.lo k (Or.inr (Or.inl (q1 hk)))
      · exact hlv k (q2 hk)
    · exact mine_new (by omega)
  refine ⟨he, iv', _, h.kept L (fun k hk => ?_) F hR (fun k hk hr => ?_) (fun i hi hr => ?_), by simp, F.below (fun k hk => h.ge k (by rw [hR k hk]; decide)) h.size⟩
  · rcases hk with hk | hk | hk | ⟨i, v, hv, hk⟩ | hk
    · exact h.lo k (Or.inl hk)
    · exact hno k (Or.inl hk)
    · exact h.lo k (Or.inr (Or.inr (Or.inl hk)))
    · by_cases hi : i < vs.length
      · rw [List.getElem?_append_left hi] at hv
        exact h.lo k (Or.inr (Or.inr (Or.inr (Or.inl ⟨i, v, hv, hk⟩))))
      · rw [List.getElem?_append_right (by omega)] at hv
        have hm := List.mem_of_getElem? hv
        simp at hm
        rcases hm with rfl | rfl | rfl | rfl
        · exact hlv k hk
        · exact hno k (Or.inr (Or.inl hk))
        · exact hno k (Or.inr (Or.inr (Or.inl hk)))
        · exact hno k (Or.inr (Or.inr (Or.inr hk)))
    · exact h.lo k (Or.inr (Or.inr (Or.inr (Or.inr hk))))
  · rcases hr with rfl | hr | hr
    · exact owns_ne h.row h.lw.blk (by decide) hk
    · exact own_types h.row h.lw.ints (by decide) hk hr
    · exact own_types h.row hl (by decide) hk hr
  · rcases hr with hr | hr | hr
    · exact blk_ne (h.pr i hi).2 h.lw.blk (by decide) hr
    · exact owns_ne h.lw.ints (h.pr i hi).2 (by decide) hr
    · exact owns_ne hl (h.pr i hi).2 (by decide) hr
/-- one list of pairs more -/
theorem LA.keptP {K : DeskKit} {Inv : DeskM → Prop} {B n0 : Nat} {own : Nat → Nat} {W W' : World} {pb : Nat} {dv : Value} {one : Bool} {iv pv : Value} {vs ps : List Value} {ds : List DP} {lv : Value} {n : Nat} {xs : List Value} (h : LA K Inv B (Go.Proofs.Ytlbmcdoldnajoaa.mine own n0) W pb dv one iv pv vs ps ds) (hn : n0 ≤ W.heap.size)
    (hl : W.ownsRow n0 42 2 lv n xs) {e : Ending} (hk : KeptP B W pb dv one iv pv vs ps lv e W') : e = .returned (.tuple #[]) ∧ ∃ pv' ps', LA K Inv B (Go.Proofs.Ytlbmcdoldnajoaa.mine own n0) W' pb dv one iv pv' vs ps' ds ∧ ps'.length = ps.length + 4 ∧ Below B W W' := by
  obtain ⟨he, iv', o1, o2, o3, L, F, N⟩ := hk
  have hlv : ∀ k, lv.ownBlock = some k → Go.Proofs.Ytlbmcdoldnajoaa.mine own n0 k = 1 := fun k hk => mine_new (owns_ge hl hk)
  have hR : ∀ k, (k = pb ∨ pv.ownBlock = some k ∨ lv.ownBlock = some k) → Go.Proofs.Ytlbmcdoldnajoaa.mine own n0 k = 1 := fun k hk => by
    rcases hk with hk | hk | hk
    · exact h.lo k (Or.inl hk)
    · exact h.lo k (Or.inr (Or.inr (Or.inl hk)))
    · exact hlv k hk
  have hno : ∀ k, (iv'.ownBlock = some k ∨ o1.ownBlock = some k ∨ o2.ownBlock = some k ∨ o3.ownBlock = some k) → Go.Proofs.Ytlbmcdoldnajoaa.mine own n0 k = 1 := fun k hk => by
    by_cases hlt : k < W.heap.size
    · obtain ⟨q1, q2⟩ := N k hlt
      rcases hk with hk | hk
      · exact h.lo k (Or.inr (Or.inr (Or.inl (q1 hk))))
      · exact hlv k (q2 hk)
    · exact mine_new (by omega)
  refine ⟨he, iv', _, h.kept L (fun k hk => ?_) F hR (fun k hk hr => ?_) (fun i hi hr => ?_), by simp, F.below (fun k hk => h.ge k (by rw [hR k hk]; decide)) h.size⟩
  · rcases hk with hk | hk | hk | hk | ⟨i, v, hv, hk⟩
    · exact h.lo k (Or.inl hk)
    · exact h.lo k (Or.inr (Or.inl hk))
    · exact hno k (Or.inl hk)
    · exact h.lo k (Or.inr (Or.inr (Or.inr (Or.inl hk))))
    · by_cases hi : i < ps.length
      · rw [List.getElem?_append_left hi] at hv
        exact h.lo k (Or.inr (Or.inr (Or.inr (Or.inr ⟨i, v, hv, hk⟩))))
      · rw [List.getElem?_append_right (by omega)] at hv
        have hm := List.mem_of_getElem? hv
        simp at hm
        rcases hm with rfl | rfl | rfl | rfl
        · exact hlv k hk
        · exact hno k (Or.inr (Or.inl hk))
        · exact hno k (Or.inr (Or.inr (Or.inl hk)))
        · exact hno k (Or.inr (Or.inr (Or.inr hk)))
  · rcases hr with rfl | hr | hr
    · exact owns_ne h.row h.lw.blk (by decide) hk
    · exact own_types h.row h.lw.prs (by decide) hk hr
    · exact own_types h.row hl (by decide) hk hr
  · rcases hr with hr | hr | hr
    · exact blk_ne (h.pr i hi).2 h.lw.blk (by decide) hr
    · exact owns_ne h.lw.prs (h.pr i hi).2 (by decide) hr
    · exact owns_ne hl (h.pr i hi).2 (by decide) hr

/-- what a step of the law leaves: it says true; so many lists more -/
def Said1L (K : DeskKit) (Inv : DeskM → Prop) (B : Nat) (W : World) (pb : Nat) (dv : Value) (one : Bool) (vs ps : List Value) (ds : List DP) (n m : Nat) (e : Ending) (W' : World) : Prop :=
  e = .returned (.bool true) ∧ ∃ own' iv' pv' vs' ps', LA K Inv B own' W' pb dv one iv' pv' vs' ps' ds ∧ vs'.length = vs.length + n ∧ ps'.length = ps.length + m ∧ Below B W W'

end Go.Proofs.Ytlbmcdoldnajoaa
