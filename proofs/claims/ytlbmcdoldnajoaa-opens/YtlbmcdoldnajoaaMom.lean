/- The document's own 'Moment' in memory. -/
import Derived.Test.YtlbmcdoldnajoaaMemP
import Derived.Test.YtlbmcdoldnajoaaFrame
namespace Go.Proofs.Ytlbmcdoldnajoaa
open Go.RowKit

def prCells : List (Int × Int) → List Value
  | [] => []
  | p :: r => .int .i64 p.1 :: .int .i64 p.2 :: prCells r

theorem length_prCells : ∀ l : List (Int × Int), (prCells l).length = l.length * 2
  | [] => rfl
  | p :: r => by simp [prCells, length_prCells r]; omega
theorem prCells_append : ∀ l m : List (Int × Int), prCells (l ++ m) = prCells l ++ prCells m
  | [], m => rfl
  | p :: r, m => by simp [prCells, prCells_append r m]
theorem prCells_get : ∀ (l : List (Int × Int)) (i : Nat), i < l.length → (prCells l)[i * 2]? = some (.int .i64 (l.getD i pz).1) ∧ (prCells l)[i * 2 + 1]? = some (.int .i64 (l.getD i pz).2)
  | [], i, h => by simp at h
  | p :: r, 0, _ => by simp [prCells]
  | p :: r, i + 1, h => by
    have ih := prCells_get r i (by simpa using h)
    have e0 : (i + 1) * 2 = i * 2 + 2 := by omega
    simp only [prCells, e0, List.getElem?_cons_succ, List.getD_cons_succ]
    exact ih

/-- a block behind a store into it -/
theorem blk_set {w : World} {b : Nat} {cur : Array Value} {t : TypeId} {fr : Nat × Nat} (h : w.heap[b]? = some (.cells cur t fr)) (i : Nat) (v : Value) :
    (w.setCell ⟨b, i, none⟩ v).heap[b]? = some (.cells (cur.setIfInBounds i v) t fr) := by
  rw [setCell_eq_setRow w b i cur t fr v h]
  exact setRow_heap w b cur _ t _ h

theorem blk_other {w : World} {b b' : Nat} (h : b' ≠ b) (i : Nat) (v : Value) : (w.setCell ⟨b, i, none⟩ v).heap[b']? = w.heap[b']? := Below.heap_setCell w ⟨b, i, none⟩ v b' h

theorem blk_cell {w : World} {b i : Nat} {cur : Array Value} {t : TypeId} {fr : Nat × Nat} (h : w.heap[b]? = some (.cells cur t fr)) : w.cell? ⟨b, i, none⟩ = cur[i]? := by simp [World.cell?, h]
theorem blk_free {w : World} {b i : Nat} {cur : Array Value} {t : TypeId} (h : w.heap[b]? = some (.cells cur t (0, 0))) : w.frozen? ⟨b, i, none⟩ = false := by simp [World.frozen?, h]
theorem blk_ne {w : World} {a b : Nat} {c d : Array Value} {t u : TypeId} {f g : Nat × Nat} (h : w.heap[a]? = some (.cells c t f)) (k : w.heap[b]? = some (.cells d u g)) (e : t ≠ u) : a ≠ b := fun hab => by
  subst hab; rw [h] at k; injection k with k; injection k with _ k; exact e k
theorem blk_lt {w : World} {b : Nat} {o : Obj} (h : w.heap[b]? = some o) : b < w.heap.size := (Array.getElem?_eq_some_iff.1 h).1

/-- an owned row stays so behind a store into another block -/
theorem owns_set {w : World} {base : Nat} {e : TypeId} {size : Nat} {v : Value} {n : Nat} {xs : List Value} (h : w.ownsRow base e size v n xs) {b : Nat} (hb : v.ownBlock ≠ some b) (i : Nat) (u : Value) : (w.setCell ⟨b, i, none⟩ u).ownsRow base e size v n xs := by
  obtain ⟨h1, h2⟩ := h
  refine ⟨h1, ?_⟩
  rcases h2 with h2 | ⟨g, cap, cur, hv, hg, hh, r⟩
  · exact Or.inl h2
  · have hne : g ≠ b := fun e => by subst e; subst hv; exact hb rfl
    exact Or.inr ⟨g, cap, cur, hv, hg, by rw [blk_other hne]; exact hh, r⟩

/-- an owned row's block has the row's own type -/
theorem owns_ne {w : World} {base : Nat} {e : TypeId} {size : Nat} {v : Value} {n : Nat} {xs : List Value} (h : w.ownsRow base e size v n xs) {b : Nat} {cur : Array Value} {t : TypeId} {fr : Nat × Nat} (hb : w.heap[b]? = some (.cells cur t fr)) (ht : e ≠ t) : v.ownBlock ≠ some b := by
  intro hv
  rcases h.2 with ⟨rfl, _⟩ | ⟨g, cap, cur', rfl, _, hh, _⟩
  · cases hv
  · injection hv with hv
    have hv' : g = b := hv
    subst hv'
    exact blk_ne hh hb ht rfl

def iv (l : List Int) : Array Value := (l.map (Value.int .i64)).toArray
def bv (l : List Bool) : Array Value := (l.map Value.bool).toArray

theorem iv_set (l : List Int) (i : Nat) (v : Int) : (iv l).setIfInBounds i (.int .i64 v) = iv (l.set i v) := by simp [iv, List.map_set]
theorem bv_set (l : List Bool) (i : Nat) (v : Bool) : (bv l).setIfInBounds i (.bool v) = bv (l.set i v) := by simp [bv, List.map_set]
theorem iv_get (l : List Int) (i : Nat) (h : i < l.length) : (iv l)[i]? = some (.int .i64 (l.getD i 0)) := by simp [iv, List.getD, h]
theorem bv_get (l : List Bool) (i : Nat) (h : i < l.length) : (bv l)[i]? = some (.bool (l.getD i false)) := by simp [bv, List.getD, h]

/-- the three blocks of a Moment that stay -/
def mom3 (px rb db : Nat) (k : Nat) : Prop := k = px ∨ k = rb ∨ k = db

/-- the seven cells of a Moment -/
def momCells (x : Mo) (rb db : Nat) (pv tv : Value) : Array Value :=
  #[.int .i64 (x.pc : Int), .int .i64 (x.done : Int), .slice (some ⟨rb, 0, none⟩) 4 4, pv, .slice (some ⟨db, 0, none⟩) 16 16, tv, .int .i64 x.fin]

/-- a Moment that lies at block px, all of it from block B on -/
structure Mom (B : Nat) (w : World) (px rb db : Nat) (pv tv : Value) (x : Mo) (pl : List (Int × Int)) : Prop where
  bpx : B ≤ px
  brb : B ≤ rb
  bdb : B ≤ db
  blk : w.heap[px]? = some (.cells (momCells x rb db pv tv) 152 (0, 0))
  regs : w.heap[rb]? = some (.cells (iv x.regs) 3 (0, 0))
  rlen : x.regs.length = 4
  read : w.heap[db]? = some (.cells (bv x.read) 4 (0, 0))
  dlen : x.read.length = 16
  puts : w.ownsRow B 42 2 pv pl.length (prCells pl)
  told : w.ownsRow B 3 1 tv x.told.length (x.told.map (Value.int .i64))
  apart : tv.ownBlock ≠ some rb
  last : ∀ k, lastP pl k = x.puts k

namespace Mom
variable {B : Nat} {w : World} {px rb db : Nat} {pv tv : Value} {x : Mo} {pl : List (Int × Int)}

theorem ne_pr (h : Mom B w px rb db pv tv x pl) : px ≠ rb := blk_ne h.blk h.regs (by decide)
theorem ne_pd (h : Mom B w px rb db pv tv x pl) : px ≠ db := blk_ne h.blk h.read (by decide)
theorem ne_rd (h : Mom B w px rb db pv tv x pl) : rb ≠ db := blk_ne h.regs h.read (by decide)
theorem ne_pp (h : Mom B w px rb db pv tv x pl) : pv.ownBlock ≠ some px := owns_ne h.puts h.blk (by decide)
theorem ne_pR (h : Mom B w px rb db pv tv x pl) : pv.ownBlock ≠ some rb := owns_ne h.puts h.regs (by decide)
theorem ne_pD (h : Mom B w px rb db pv tv x pl) : pv.ownBlock ≠ some db := owns_ne h.puts h.read (by decide)
theorem ne_tp (h : Mom B w px rb db pv tv x pl) : tv.ownBlock ≠ some px := owns_ne h.told h.blk (by decide)
theorem ne_tD (h : Mom B w px rb db pv tv x pl) : tv.ownBlock ≠ some db := owns_ne h.told h.read (by decide)

/-- a number stored into a field -/
theorem setPc (h : Mom B w px rb db pv tv x pl) (n : Nat) : Mom B (w.setCell ⟨px, 0, none⟩ (.int .i64 (n : Int))) px rb db pv tv { x with pc := n } pl :=
  { h with
    blk := by rw [blk_set h.blk]; simp [momCells]
    regs := by rw [blk_other h.ne_pr.symm]; exact h.regs
    read := by rw [blk_other h.ne_pd.symm]; exact h.read
    puts := owns_set h.puts h.ne_pp _ _
    told := owns_set h.told h.ne_tp _ _ }
theorem setDone (h : Mom B w px rb db pv tv x pl) (n : Nat) : Mom B (w.setCell ⟨px, 1, none⟩ (.int .i64 (n : Int))) px rb db pv tv { x with done := n } pl :=
  { h with
    blk := by rw [blk_set h.blk]; simp [momCells]
    regs := by rw [blk_other h.ne_pr.symm]; exact h.regs
    read := by rw [blk_other h.ne_pd.symm]; exact h.read
    puts := owns_set h.puts h.ne_pp _ _
    told := owns_set h.told h.ne_tp _ _ }
theorem setFin (h : Mom B w px rb db pv tv x pl) (n : Int) : Mom B (w.setCell ⟨px, 6, none⟩ (.int .i64 n)) px rb db pv tv { x with fin := n } pl :=
  { h with
    blk := by rw [blk_set h.blk]; simp [momCells]
    regs := by rw [blk_other h.ne_pr.symm]; exact h.regs
    read := by rw [blk_other h.ne_pd.symm]; exact h.read
    puts := owns_set h.puts h.ne_pp _ _
    told := owns_set h.told h.ne_tp _ _ }
theorem setR (h : Mom B w px rb db pv tv x pl) (a : Nat) (v : Int) : Mom B (w.setCell ⟨rb, a, none⟩ (.int .i64 v)) px rb db pv tv { x with regs := x.regs.set a v } pl :=
  { h with
    blk := by rw [blk_other h.ne_pr]; exact h.blk
    regs := by rw [blk_set h.regs, iv_set]
    rlen := by simpa using h.rlen
    read := by rw [blk_other h.ne_rd.symm]; exact h.read
    puts := owns_set h.puts h.ne_pR _ _
    told := owns_set h.told h.apart _ _ }
theorem setD (h : Mom B w px rb db pv tv x pl) (a : Nat) (v : Bool) : Mom B (w.setCell ⟨db, a, none⟩ (.bool v)) px rb db pv tv { x with read := x.read.set a v } pl :=
  { h with
    blk := by rw [blk_other h.ne_pd]; exact h.blk
    regs := by rw [blk_other h.ne_rd]; exact h.regs
    read := by rw [blk_set h.read, bv_set]
    dlen := by simpa using h.dlen
    puts := owns_set h.puts h.ne_pD _ _
    told := owns_set h.told h.ne_tD _ _ }

theorem congr (h : Mom B w px rb db pv tv x pl) {y : Mo} (e : x = y) : Mom B w px rb db pv tv y pl := e ▸ h

/-- where its blocks were not written it stays as it was -/
theorem fr {w' : World} {S : Nat → Prop} (h : Mom B w px rb db pv tv x pl) (hf : Fr S w w') (hS : ∀ k, (k = px ∨ k = rb ∨ k = db ∨ pv.ownBlock = some k ∨ tv.ownBlock = some k) → ¬ S k) : Mom B w' px rb db pv tv x pl :=
  { h with
    blk := hf.blk h.blk (hS _ (Or.inl rfl))
    regs := hf.blk h.regs (hS _ (Or.inr (Or.inl rfl)))
    read := hf.blk h.read (hS _ (Or.inr (Or.inr (Or.inl rfl))))
    puts := owns_fr h.puts hf (fun _ hk => hS _ (Or.inr (Or.inr (Or.inr (Or.inl hk)))))
    told := owns_fr h.told hf (fun _ hk => hS _ (Or.inr (Or.inr (Or.inr (Or.inr hk))))) }
theorem alloc (h : Mom B w px rb db pv tv x pl) (o : Obj) : Mom B (w.alloc o) px rb db pv tv x pl := h.fr ((Fr.refl (fun _ => False) w).alloc o) (fun _ _ hs => hs)
theorem drew (h : Mom B w px rb db pv tv x pl) : Mom B w.drew px rb db pv tv x pl := h.fr ((Fr.refl (fun _ => False) w).drew) (fun _ _ hs => hs)
theorem drewN (h : Mom B w px rb db pv tv x pl) (n : Nat) : Mom B (w.drewN n) px rb db pv tv x pl := h.fr ((Fr.refl (fun _ => False) w).drewN n) (fun _ _ hs => hs)

/-- what the walk wants of the cells -/
theorem cPc (h : Mom B w px rb db pv tv x pl) : w.cell? ⟨px, 0, none⟩ = some (.int .i64 (x.pc : Int)) := by rw [blk_cell h.blk]; rfl
theorem cDone (h : Mom B w px rb db pv tv x pl) : w.cell? ⟨px, 1, none⟩ = some (.int .i64 (x.done : Int)) := by rw [blk_cell h.blk]; rfl
theorem cRegs (h : Mom B w px rb db pv tv x pl) : w.cell? ⟨px, 2, none⟩ = some (.slice (some ⟨rb, 0, none⟩) 4 4) := by rw [blk_cell h.blk]; rfl
theorem cPuts (h : Mom B w px rb db pv tv x pl) : w.cell? ⟨px, 3, none⟩ = some pv := by rw [blk_cell h.blk]; rfl
theorem cRead (h : Mom B w px rb db pv tv x pl) : w.cell? ⟨px, 4, none⟩ = some (.slice (some ⟨db, 0, none⟩) 16 16) := by rw [blk_cell h.blk]; rfl
theorem cTold (h : Mom B w px rb db pv tv x pl) : w.cell? ⟨px, 5, none⟩ = some tv := by rw [blk_cell h.blk]; rfl
theorem cFin (h : Mom B w px rb db pv tv x pl) : w.cell? ⟨px, 6, none⟩ = some (.int .i64 x.fin) := by rw [blk_cell h.blk]; rfl
theorem cReg (h : Mom B w px rb db pv tv x pl) {a : Nat} (ha : a < 4) : w.cell? ⟨rb, a, none⟩ = some (.int .i64 (x.regs.getD a 0)) := by rw [blk_cell h.regs, iv_get _ _ (by rw [h.rlen]; exact ha)]
theorem cD (h : Mom B w px rb db pv tv x pl) {a : Nat} (ha : a < 16) : w.cell? ⟨db, a, none⟩ = some (.bool (x.read.getD a false)) := by rw [blk_cell h.read, bv_get _ _ (by rw [h.dlen]; exact ha)]
theorem fPx (h : Mom B w px rb db pv tv x pl) (i : Nat) : w.frozen? ⟨px, i, none⟩ = false := blk_free h.blk
theorem fRb (h : Mom B w px rb db pv tv x pl) (i : Nat) : w.frozen? ⟨rb, i, none⟩ = false := blk_free h.regs
theorem fDb (h : Mom B w px rb db pv tv x pl) (i : Nat) : w.frozen? ⟨db, i, none⟩ = false := blk_free h.read
end Mom

set_option maxRecDepth 100000 in
set_option maxHeartbeats 400000 in
theorem becomes_any (B : Nat) (w : World) (px rb db : Nat) (pv tv : Value) (x : Mo) (pl : List (Int × Int)) (a v : Int) (h : Mom B w px rb db pv tv x pl) (ha : 0 ≤ a) (ha' : a ≤ 3) :
    Calls Try.prog 116 #[.pointer (some ⟨px, 0, none⟩), .int .i64 a, .int .i64 v] w fun e w' => e = .returned (.tuple #[]) ∧ Mom B w' px rb db pv tv (bec x a v) pl ∧ Fr (mom3 px rb db) w w' := by
  obtain ⟨n, rfl⟩ : ∃ n : Nat, a = n := ⟨a.toNat, by omega⟩
  have c2 := h.cRegs
  have c6 := h.cFin
  have cr := h.cReg (a := n) (by omega)
  have f6 := h.fPx 6
  have fr := h.fRb n
  have H : Hid (Mom B w px rb db pv tv x pl) := h
  clear h
  rcases (show v < 0 ∨ (0 ≤ v ∧ 9999 < v) ∨ (0 ≤ v ∧ v ≤ 9999) by omega) with k | ⟨k, k'⟩ | ⟨k, k'⟩
  · go_enter Try.func116, Try.ntmps116
    go_wp2
    refine bodyPost_ret (results_none rfl _ _ _) rfl ?_
    exact ⟨rfl, (H.out.setFin 5).congr (by simp [bec, k]), (Fr.refl _ _).setCell (p := ⟨px, _, none⟩) (fun _ => Or.inl rfl) _⟩
  · go_enter Try.func116, Try.ntmps116
    go_wp2
    refine bodyPost_ret (results_none rfl _ _ _) rfl ?_
    exact ⟨rfl, (H.out.setFin 5).congr (by simp [bec, k']), (Fr.refl _ _).setCell (p := ⟨px, _, none⟩) (fun _ => Or.inl rfl) _⟩
  · have k1 : ¬ v < 0 := by omega
    have k2 : ¬ 9999 < v := by omega
    clear k k'
    go_enter Try.func116, Try.ntmps116
    go_wp2
    go_end0
    exact ⟨rfl, (H.out.setR n v).congr (by simp [bec, setReg]; omega), (Fr.refl _ _).setCell (p := ⟨rb, _, none⟩) (fun _ => Or.inr (Or.inl rfl)) _⟩

end Go.Proofs.Ytlbmcdoldnajoaa
