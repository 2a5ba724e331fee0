import Derived.Test.YtlbmcdoldnajoaaGreatFrame
import Derived.Deep.QuietTactic
import Derived.BigQuiet
set_option maxRecDepth 100000
set_option maxHeartbeats 2000000
namespace Go.Proofs.YtlbmcdoldnajoaaGreat
open Go.RowKit
def prCells : List (Int × Int) → List Value
  | [] => []
  | p :: r => .int .i64 p.1 :: .int .i64 p.2 :: prCells r
theorem length_prCells : ∀ l : List (Int × Int), (prCells l).length = l.length * 2
  | [] => rfl
  | p :: r => by simp [prCells, length_prCells r]; omega
theorem prCells_append : ∀ l m : List (Int × Int), prCells (l ++ m) = prCells l ++ prCells m
  | [], m => rfl
  | p :: r, m => by simp [prCells, prCells_append r m]
theorem prCells_get : ∀ (l : List (Int × Int)) (i : Nat), i < l.length → (prCells l)[i * 2]? = some (.int .i64 (l.getD i pz).1) ∧ (prCells l)[i * 2 + 1]? = some (.int .i64 (l.getD i pz).2)
  | [], i, h => by simp at h
  | p :: r, 0, _ => by simp [prCells]
  | p :: r, i + 1, h => by
    have ih := prCells_get r i (by simpa using h)
    have e0 : (i + 1) * 2 = i * 2 + 2 := by omega
    simp only [prCells, e0, List.getElem?_cons_succ, List.getD_cons_succ]
    exact ih
theorem blk_set {w : World} {b : Nat} {cur : Array Value} {t : TypeId} {fr : Nat × Nat} (h : w.heap[b]? = some (.cells cur t fr)) (i : Nat) (v : Value) :
    (w.setCell ⟨b, i, none⟩ v).heap[b]? = some (.cells (cur.setIfInBounds i v) t fr) := by
  rw [setCell_eq_setRow w b i cur t fr v h]
  exact setRow_heap w b cur _ t _ h
theorem blk_other {w : World} {b b' : Nat} (h : b' ≠ b) (i : Nat) (v : Value) : (w.setCell ⟨b, i, none⟩ v).heap[b']? = w.heap[b']? := Below.heap_setCell w ⟨b, i, none⟩ v b' h
theorem blk_cell {w : World} {b i : Nat} {cur : Array Value} {t : TypeId} {fr : Nat × Nat} (h : w.heap[b]? = some (.cells cur t fr)) : w.cell? ⟨b, i, none⟩ = cur[i]? := by simp [World.cell?, h]
theorem blk_free {w : World} {b i : Nat} {cur : Array Value} {t : TypeId} (h : w.heap[b]? = some (.cells cur t (0, 0))) : w.frozen? ⟨b, i, none⟩ = false := by simp [World.frozen?, h]
theorem blk_ne {w : World} {a b : Nat} {c d : Array Value} {t u : TypeId} {f g : Nat × Nat} (h : w.heap[a]? = some (.cells c t f)) (k : w.heap[b]? = some (.cells d u g)) (e : t ≠ u) : a ≠ b := fun hab => by
  subst hab; rw [h] at k; injection k with k; injection k with _ k; exact e k
theorem blk_lt {w : World} {b : Nat} {o : Obj} (h : w.heap[b]? = some o) : b < w.heap.size := (Array.getElem?_eq_some_iff.1 h).1
theorem owns_set {w : World} {base : Nat} {e : TypeId} {size : Nat} {v : Value} {n : Nat} {xs : List Value} (h : w.ownsRow base e size v n xs) {b : Nat} (hb : v.ownBlock ≠ some b) (i : Nat) (u : Value) : (w.setCell ⟨b, i, none⟩ u).ownsRow base e size v n xs := by
  obtain ⟨h1, h2⟩ := h
  refine ⟨h1, ?_⟩
  rcases h2 with h2 | ⟨g, cap, cur, hv, hg, hh, r⟩
  · exact Or.inl h2
  · have hne : g ≠ b := fun e => by subst e; subst hv; exact hb rfl
    exact Or.inr ⟨g, cap, cur, hv, hg, by rw [blk_other hne]; exact hh, r⟩
theorem owns_ne {w : World} {base : Nat} {e : TypeId} {size : Nat} {v : Value} {n : Nat} {xs : List Value} (h : w.ownsRow base e size v n xs) {b : Nat} {cur : Array Value} {t : TypeId} {fr : Nat × Nat} (hb : w.heap[b]? = some (.cells cur t fr)) (ht : e ≠ t) : v.ownBlock ≠ some b := by
  intro hv
  rcases h.2 with ⟨rfl, _⟩ | ⟨g, cap, cur', rfl, _, hh, _⟩
  · cases hv
  · injection hv with hv
    have hv' : g = b := hv
    subst hv'
    exact blk_ne hh hb ht rfl
def iv (l : List Int) : Array Value := (l.map (Value.int .i64)).toArray
def bv (l : List Bool) : Array Value := (l.map Value.bool).toArray
theorem iv_set (l : List Int) (i : Nat) (v : Int) : (iv l).setIfInBounds i (.int .i64 v) = iv (l.set i v) := by simp [iv, List.map_set]
theorem bv_set (l : List Bool) (i : Nat) (v : Bool) : (bv l).setIfInBounds i (.bool v) = bv (l.set i v) := by simp [bv, List.map_set]
theorem iv_get (l : List Int) (i : Nat) (h : i < l.length) : (iv l)[i]? = some (.int .i64 (l.getD i 0)) := by simp [iv, List.getD, h]
theorem bv_get (l : List Bool) (i : Nat) (h : i < l.length) : (bv l)[i]? = some (.bool (l.getD i false)) := by simp [bv, List.getD, h]
def mom3 (px rb db : Nat) (k : Nat) : Prop := k = px ∨ k = rb ∨ k = db
def momCells (x : Mo) (rb db : Nat) (pv tv : Value) : Array Value :=
  #[.int .i64 (x.pc : Int), .int .i64 (x.done : Int), .slice (some ⟨rb, 0, none⟩) 4 4, pv, .slice (some ⟨db, 0, none⟩) 16 16, tv, .int .i64 x.fin]
structure Mom (B : Nat) (w : World) (px rb db : Nat) (pv tv : Value) (x : Mo) (pl : List (Int × Int)) : Prop where
  bpx : B ≤ px
  brb : B ≤ rb
  bdb : B ≤ db
  blk : w.heap[px]? = some (.cells (momCells x rb db pv tv) 116 (0, 0))
  regs : w.heap[rb]? = some (.cells (iv x.regs) 3 (0, 0))
  rlen : x.regs.length = 4
  read : w.heap[db]? = some (.cells (bv x.read) 4 (0, 0))
  dlen : x.read.length = 16
  puts : w.ownsRow B 58 2 pv pl.length (prCells pl)
  told : w.ownsRow B 3 1 tv x.told.length (x.told.map (Value.int .i64))
  apart : tv.ownBlock ≠ some rb
  last : ∀ k, lastP pl k = x.puts k
namespace Mom
variable {B : Nat} {w : World} {px rb db : Nat} {pv tv : Value} {x : Mo} {pl : List (Int × Int)}
theorem ne_pr (h : Mom B w px rb db pv tv x pl) : px ≠ rb := blk_ne h.blk h.regs (by decide)
theorem ne_pd (h : Mom B w px rb db pv tv x pl) : px ≠ db := blk_ne h.blk h.read (by decide)
theorem ne_rd (h : Mom B w px rb db pv tv x pl) : rb ≠ db := blk_ne h.regs h.read (by decide)
theorem ne_pp (h : Mom B w px rb db pv tv x pl) : pv.ownBlock ≠ some px := owns_ne h.puts h.blk (by decide)
theorem ne_pR (h : Mom B w px rb db pv tv x pl) : pv.ownBlock ≠ some rb := owns_ne h.puts h.regs (by decide)
theorem ne_pD (h : Mom B w px rb db pv tv x pl) : pv.ownBlock ≠ some db := owns_ne h.puts h.read (by decide)
theorem ne_tp (h : Mom B w px rb db pv tv x pl) : tv.ownBlock ≠ some px := owns_ne h.told h.blk (by decide)
theorem ne_tD (h : Mom B w px rb db pv tv x pl) : tv.ownBlock ≠ some db := owns_ne h.told h.read (by decide)
theorem setPc (h : Mom B w px rb db pv tv x pl) (n : Nat) : Mom B (w.setCell ⟨px, 0, none⟩ (.int .i64 (n : Int))) px rb db pv tv { x with pc := n } pl :=
  { h with
    blk := by rw [blk_set h.blk]; simp [momCells]
    regs := by rw [blk_other h.ne_pr.symm]; exact h.regs
    read := by rw [blk_other h.ne_pd.symm]; exact h.read
    puts := owns_set h.puts h.ne_pp _ _
    told := owns_set h.told h.ne_tp _ _ }
theorem setDone (h : Mom B w px rb db pv tv x pl) (n : Nat) : Mom B (w.setCell ⟨px, 1, none⟩ (.int .i64 (n : Int))) px rb db pv tv { x with done := n } pl :=
  { h with
    blk := by rw [blk_set h.blk]; simp [momCells]
    regs := by rw [blk_other h.ne_pr.symm]; exact h.regs
    read := by rw [blk_other h.ne_pd.symm]; exact h.read
    puts := owns_set h.puts h.ne_pp _ _
    told := owns_set h.told h.ne_tp _ _ }
theorem setFin (h : Mom B w px rb db pv tv x pl) (n : Int) : Mom B (w.setCell ⟨px, 6, none⟩ (.int .i64 n)) px rb db pv tv { x with fin := n } pl :=
  { h with
    blk := by rw [blk_set h.blk]; simp [momCells]
    regs := by rw [blk_other h.ne_pr.symm]; exact h.regs
    read := by rw [blk_other h.ne_pd.symm]; exact h.read
    puts := owns_set h.puts h.ne_pp _ _
    told := owns_set h.told h.ne_tp _ _ }
theorem setR (h : Mom B w px rb db pv tv x pl) (a : Nat) (v : Int) : Mom B (w.setCell ⟨rb, a, none⟩ (.int .i64 v)) px rb db pv tv { x with regs := x.regs.set a v } pl :=
  { h with
    blk := by rw [blk_other h.ne_pr]; exact h.blk
    regs := by rw [blk_set h.regs, iv_set]
    rlen := by simpa using h.rlen
    read := by rw [blk_other h.ne_rd.symm]; exact h.read
    puts := owns_set h.puts h.ne_pR _ _
    told := owns_set h.told h.apart _ _ }
theorem setD (h : Mom B w px rb db pv tv x pl) (a : Nat) (v : Bool) : Mom B (w.setCell ⟨db, a, none⟩ (.bool v)) px rb db pv tv { x with read := x.read.set a v } pl :=
  { h with
    blk := by rw [blk_other h.ne_pd]; exact h.blk
    regs := by rw [blk_other h.ne_rd]; exact h.regs
    read := by rw [blk_set h.read, bv_set]
    dlen := by simpa using h.dlen
    puts := owns_set h.puts h.ne_pD _ _
    told := owns_set h.told h.ne_tD _ _ }
theorem congr (h : Mom B w px rb db pv tv x pl) {y : Mo} (e : x = y) : Mom B w px rb db pv tv y pl := e ▸ h
theorem fr {w' : World} {S : Nat → Prop} (h : Mom B w px rb db pv tv x pl) (hf : Fr S w w') (hS : ∀ k, (k = px ∨ k = rb ∨ k = db ∨ pv.ownBlock = some k ∨ tv.ownBlock = some k) → ¬ S k) : Mom B w' px rb db pv tv x pl :=
  { h with
    blk := hf.blk h.blk (hS _ (Or.inl rfl))
    regs := hf.blk h.regs (hS _ (Or.inr (Or.inl rfl)))
    read := hf.blk h.read (hS _ (Or.inr (Or.inr (Or.inl rfl))))
    puts := owns_fr h.puts hf (fun _ hk => hS _ (Or.inr (Or.inr (Or.inr (Or.inl hk)))))
    told := owns_fr h.told hf (fun _ hk => hS _ (Or.inr (Or.inr (Or.inr (Or.inr hk))))) }
theorem alloc (h : Mom B w px rb db pv tv x pl) (o : Obj) : Mom B (w.alloc o) px rb db pv tv x pl := h.fr ((Fr.refl (fun _ => False) w).alloc o) (fun _ _ hs => hs)
theorem drew (h : Mom B w px rb db pv tv x pl) : Mom B w.drew px rb db pv tv x pl := h.fr ((Fr.refl (fun _ => False) w).drew) (fun _ _ hs => hs)
theorem drewN (h : Mom B w px rb db pv tv x pl) (n : Nat) : Mom B (w.drewN n) px rb db pv tv x pl := h.fr ((Fr.refl (fun _ => False) w).drewN n) (fun _ _ hs => hs)
theorem cPc (h : Mom B w px rb db pv tv x pl) : w.cell? ⟨px, 0, none⟩ = some (.int .i64 (x.pc : Int)) := by rw [blk_cell h.blk]; rfl
theorem cDone (h : Mom B w px rb db pv tv x pl) : w.cell? ⟨px, 1, none⟩ = some (.int .i64 (x.done : Int)) := by rw [blk_cell h.blk]; rfl
theorem cRegs (h : Mom B w px rb db pv tv x pl) : w.cell? ⟨px, 2, none⟩ = some (.slice (some ⟨rb, 0, none⟩) 4 4) := by rw [blk_cell h.blk]; rfl
theorem cPuts (h : Mom B w px rb db pv tv x pl) : w.cell? ⟨px, 3, none⟩ = some pv := by rw [blk_cell h.blk]; rfl
theorem cRead (h : Mom B w px rb db pv tv x pl) : w.cell? ⟨px, 4, none⟩ = some (.slice (some ⟨db, 0, none⟩) 16 16) := by rw [blk_cell h.blk]; rfl
theorem cTold (h : Mom B w px rb db pv tv x pl) : w.cell? ⟨px, 5, none⟩ = some tv := by rw [blk_cell h.blk]; rfl
theorem cFin (h : Mom B w px rb db pv tv x pl) : w.cell? ⟨px, 6, none⟩ = some (.int .i64 x.fin) := by rw [blk_cell h.blk]; rfl
theorem cReg (h : Mom B w px rb db pv tv x pl) {a : Nat} (ha : a < 4) : w.cell? ⟨rb, a, none⟩ = some (.int .i64 (x.regs.getD a 0)) := by rw [blk_cell h.regs, iv_get _ _ (by rw [h.rlen]; exact ha)]
theorem cD (h : Mom B w px rb db pv tv x pl) {a : Nat} (ha : a < 16) : w.cell? ⟨db, a, none⟩ = some (.bool (x.read.getD a false)) := by rw [blk_cell h.read, bv_get _ _ (by rw [h.dlen]; exact ha)]
theorem fPx (h : Mom B w px rb db pv tv x pl) (i : Nat) : w.frozen? ⟨px, i, none⟩ = false := blk_free h.blk
theorem fRb (h : Mom B w px rb db pv tv x pl) (i : Nat) : w.frozen? ⟨rb, i, none⟩ = false := blk_free h.regs
theorem fDb (h : Mom B w px rb db pv tv x pl) (i : Nat) : w.frozen? ⟨db, i, none⟩ = false := blk_free h.read
end Mom
theorem becomes_any (B : Nat) (w : World) (px rb db : Nat) (pv tv : Value) (x : Mo) (pl : List (Int × Int)) (a v : Int) (h : Mom B w px rb db pv tv x pl) (ha : 0 ≤ a) (ha' : a ≤ 3) :
    Calls Tryz.prog 91 #[.pointer (some ⟨px, 0, none⟩), .int .i64 a, .int .i64 v] w fun e w' => e = .returned (.tuple #[]) ∧ Mom B w' px rb db pv tv (bec x a v) pl ∧ Fr (mom3 px rb db) w w' := by
  obtain ⟨n, rfl⟩ : ∃ n : Nat, a = n := ⟨a.toNat, by omega⟩
  have c2 := h.cRegs
  have c6 := h.cFin
  have cr := h.cReg (a := n) (by omega)
  have f6 := h.fPx 6
  have fr := h.fRb n
  have H : Hid (Mom B w px rb db pv tv x pl) := h
  clear h
  rcases (show v < 0 ∨ (0 ≤ v ∧ 9999 < v) ∨ (0 ≤ v ∧ v ≤ 9999) by omega) with k | ⟨k, k'⟩ | ⟨k, k'⟩
  · go_enter Tryz.func91, Tryz.ntmps91
    go_wp2
    refine bodyPost_ret (results_none rfl _ _ _) rfl ?_
    exact ⟨rfl, (H.out.setFin 5).congr (by simp [bec, k]), (Fr.refl _ _).setCell (p := ⟨px, _, none⟩) (fun _ => Or.inl rfl) _⟩
  · go_enter Tryz.func91, Tryz.ntmps91
    go_wp2
    refine bodyPost_ret (results_none rfl _ _ _) rfl ?_
    exact ⟨rfl, (H.out.setFin 5).congr (by simp [bec, k']), (Fr.refl _ _).setCell (p := ⟨px, _, none⟩) (fun _ => Or.inl rfl) _⟩
  · have k1 : ¬ v < 0 := by omega
    have k2 : ¬ 9999 < v := by omega
    clear k k'
    go_enter Tryz.func91, Tryz.ntmps91
    go_wp2
    go_end0
    exact ⟨rfl, (H.out.setR n v).congr (by simp [bec, setReg]; omega), (Fr.refl _ _).setCell (p := ⟨rb, _, none⟩) (fun _ => Or.inr (Or.inl rfl)) _⟩
def goodP (l : List (Int × Int)) (i : Nat) : Bool := keyB (l.getD i pz).1 && decide (0 ≤ (l.getD i pz).2 ∧ (l.getD i pz).2 ≤ 9999) && (decide (i = 0) || decide ((l.getD (i - 1) pz).1 < (l.getD i pz).1))
theorem mapB_eq (l : List (Int × Int)) : mapB l = (List.range l.length).all (goodP l) := rfl
theorem mapB_bad {l : List (Int × Int)} {i : Nat} (hi : i < l.length) (h : goodP l i = false) : mapB l = false := by
  rw [mapB_eq, List.all_eq_false]
  exact ⟨i, by simpa using hi, by rw [h]; simp⟩
theorem mapB_good {l : List (Int × Int)} (h : ∀ i, i < l.length → goodP l i = true) : mapB l = true := by
  rw [mapB_eq, List.all_eq_true]
  exact fun i hi => h i (by simpa using hi)
theorem mapOK_at (b off cap n : Nat) (l : List (Int × Int)) (w : World) (hn : n = l.length) (hm : n ≤ 140737488351232) (hs : PairsAt w b off l) :
    Calls Tryz.prog 53 #[.slice (some ⟨b, off, none⟩) n cap] w fun e w' => e = .returned (.bool (mapB l)) ∧ Below w.heap.size w w' := by
  have HN : Hid (n = l.length) := hn
  have HS : Hid (PairsAt w b off l) := hs
  clear hn hs
  go_enter Tryz.func53, Tryz.ntmps53
  go_wp2
  go_loopw [3] (fun i wr => ∃ j d : Nat, j ≤ n ∧ i = .int .i64 j ∧ (∀ t, t < j → goodP l t = true) ∧ wr = w.drewN d) (fun i _ => n - (intOf i).toNat)
  case atStart => exact ⟨0, 0, Nat.zero_le _, rfl, fun t ht => absurd ht (Nat.not_lt_zero _), rfl⟩
  case round =>
    obtain ⟨j, d, hj, rfl, hall, rfl⟩ := hrel
    have HA : Hid (∀ t, t < j → goodP l t = true) := hall
    clear hall
    by_cases hlt : j < n
    · have hlt' : j < l.length := by rw [← HN.out]; exact hlt
      obtain ⟨c0, c1⟩ := HS.out j hlt'
      have hgood : goodP l j = (keyB (l.getD j pz).1 && decide (0 ≤ (l.getD j pz).2 ∧ (l.getD j pz).2 ≤ 9999) && (decide (j = 0) || decide ((l.getD (j - 1) pz).1 < (l.getD j pz).1))) := rfl
      obtain ⟨p, hp⟩ : ∃ p, p = l.getD j pz := ⟨_, rfl⟩
      rw [← hp] at c0 c1 hgood
      have HP : Hid (p = l.getD j pz) := hp
      clear hp
      obtain ⟨p1, p2⟩ := p
      simp only at c0 c1 hgood
      have HG : Hid (goodP l j = (keyB p1 && decide (0 ≤ p2 ∧ p2 ≤ 9999) && (decide (j = 0) || decide ((l.getD (j - 1) pz).1 < p1)))) := hgood
      clear hgood
      have m1 : (0 : Int) ≤ (j : Int) := by omega
      have m2 : (j : Int) < (n : Int) := by omega
      have hfalse : Hid (goodP l j = false → Ending.returned (.bool false) = .returned (.bool (mapB l))) := fun h => by rw [mapB_bad hlt' h]
      have Dn : Hid (∀ k, Below w.heap.size w ((w.drewN d).drewN k)) := fun k => below_drewN (below_drewN (Below.refl _ _) _) _
      rcases (show (keyB p1 = false) ∨ (keyB p1 = true ∧ p2 < 0) ∨ (keyB p1 = true ∧ 0 ≤ p2 ∧ 9999 < p2) ∨ (keyB p1 = true ∧ 0 ≤ p2 ∧ p2 ≤ 9999) by cases keyB p1 <;> simp <;> omega) with k0 | ⟨k0, k1⟩ | ⟨k0, k1, k2⟩ | ⟨k0, k1, k2⟩
      · go_wp2_with (go_at_call 73; refine (key_any _ _).mono ?_; rintro e wv ⟨rfl, rfl⟩)
        go_quiet (fail)
        go_wp2
        go_ret
        exact ⟨hfalse.out (by rw [HG.out, k0]; rfl), Dn.out _⟩
      · have d1 : decide (p2 < 0) = true := by simpa using k1
        go_wp2_with (go_at_call 73; refine (key_any _ _).mono ?_; rintro e wv ⟨rfl, rfl⟩)
        go_quiet (fail)
        go_wp2
        go_ret
        exact ⟨hfalse.out (by rw [HG.out]; simp; omega), Dn.out _⟩
      · have d1 : decide (p2 < 0) = false := by simp; omega
        have d2 : decide (9999 < p2) = true := by simp; omega
        go_wp2_with (go_at_call 73; refine (key_any _ _).mono ?_; rintro e wv ⟨rfl, rfl⟩)
        go_quiet (fail)
        go_wp2
        go_ret
        exact ⟨hfalse.out (by rw [HG.out]; simp; omega), Dn.out _⟩
      · have d1 : decide (p2 < 0) = false := by simp; omega
        have d2 : decide (9999 < p2) = false := by simp; omega
        by_cases hz : j = 0
        · subst hz
          simp only [Nat.zero_mul, Nat.add_zero] at c0 c1
          have HG1 : Hid (goodP l 0 = true) := by show _ = _; rw [HG.out, k0]; simp; omega
          go_wp2_with (go_at_call 73; refine (key_any _ _).mono ?_; rintro e wv ⟨rfl, rfl⟩)
          go_quiet (fail)
          go_wp2
          go_roundw
          case rel =>
            exact ⟨1, d + nq, by omega, by go_num, fun t ht => (show t = 0 by omega) ▸ HG1.out, rfl⟩
          case measure => simp [intOf]; omega
        · obtain ⟨j', rfl⟩ : ∃ j', j = j' + 1 := ⟨j - 1, by omega⟩
          obtain ⟨q0, _⟩ := HS.out j' (by omega)
          simp only [Nat.add_sub_cancel] at HG
          obtain ⟨q, hq⟩ : ∃ q, q = (l.getD j' pz).1 := ⟨_, rfl⟩
          rw [← hq] at q0 HG
          have e1 : ((j' + 1 : Nat) : Int) = (j' : Int) + 1 := by omega
          have m3 : (0 : Int) < (j' : Int) + 1 := by omega
          have m4 : (j' : Int) < (n : Int) := by omega
          have m5 : (j' : Int) + 1 < (n : Int) := by omega
          have m6 : (0 : Int) ≤ (j' : Int) + 1 := by omega
          rw [e1]
          clear hq
          have d3 : decide ((0 : Int) < (j' : Int) + 1) = true := decide_eq_true (by omega)
          by_cases hk : p1 ≤ q
          · have d4 : decide (p1 ≤ q) = true := by simpa using hk
            go_wp2_with (go_at_call 73; refine (key_any _ _).mono ?_; rintro e wv ⟨rfl, rfl⟩)
            go_quiet (fail)
            go_wp2
            go_ret
            exact ⟨hfalse.out (by rw [HG.out]; simp; omega), Dn.out _⟩
          · have d4 : decide (p1 ≤ q) = false := by simpa using hk
            have HG1 : Hid (goodP l (j' + 1) = true) := by show _ = _; rw [HG.out, k0]; simp; omega
            go_wp2_with (go_at_call 73; refine (key_any _ _).mono ?_; rintro e wv ⟨rfl, rfl⟩)
            go_quiet (fail)
            go_wp2
            go_roundw
            case rel =>
              refine ⟨j' + 1 + 1, d + nq, by omega, by go_num, fun t ht => ?_, rfl⟩
              by_cases htj : t = j' + 1
              · subst htj; exact HG1.out
              · exact HA.out t (by omega)
            case measure => simp [intOf]; omega
    · go_wp2
      go_ret
      exact ⟨ret_bool (mapB_good (fun t ht => HA.out t (by have := HN.out; omega))).symm, below_drewN (Below.refl _ _) _⟩
theorem mapOK_none (ao : Option Addr) (cap : Nat) (w : World) :
    Calls Tryz.prog 53 #[.slice ao 0 cap] w fun e w' => e = .returned (.bool true) ∧ w' = w := by
  go_enter Tryz.func53, Tryz.ntmps53
  go_wp2
  go_loop [3] (fun i => i = .int .i64 0) (fun _ => 0)
  case atStart => rfl
  case round =>
    subst hrel
    go_wp2
    go_ret
    exact ⟨rfl, rfl⟩
theorem mapOK_any (v : Value) (B : Nat) (l : List (Int × Int)) (w : World) (h : PairsV w B v l) :
    Calls Tryz.prog 53 #[v] w fun e w' => e = .returned (.bool (mapB l)) ∧ Below w.heap.size w w' := by
  obtain ⟨ao, cap, rfl, hm, h⟩ := h
  rcases h with rfl | ⟨b, off, rfl, hb, hs⟩
  · exact (mapOK_none ao cap w).mono fun e w' ⟨he, hw⟩ => by subst hw; exact ⟨he, Below.refl _ _⟩
  · exact mapOK_at b off cap _ l w rfl hm hs
def runMo (l : List St) (ml : List (Int × Int)) (fuel : Int) : Mo := play l (vIn ml) fuel.toNat mo0
def runSt (l : List St) (ml : List (Int × Int)) (fuel : Int) : Int := if runErr l ml fuel = 0 then endState l (runMo l ml fuel) else 0
def runTold (l : List St) (ml : List (Int × Int)) (fuel : Int) : List Int := if runErr l ml fuel = 0 then (runMo l ml fuel).told else []
def runTries (l : List St) (ml : List (Int × Int)) (fuel : Int) : Int := if runErr l ml fuel = 0 then 1 else 0
def runMap (l : List St) (ml : List (Int × Int)) (fuel : Int) : List (Int × Int) := if runErr l ml fuel = 0 then listOf (mapAfter l (vIn ml) (runMo l ml fuel)) else []
def Ran (l : List St) (ml : List (Int × Int)) (fuel : Int) (w : World) (e : Ending) (w' : World) : Prop := ∃ tv av,
  e = .returned (.tuple #[.agg #[.int .i64 (runSt l ml fuel), tv, .int .i64 (runTries l ml fuel)], av, .int .i64 (runErr l ml fuel)]) ∧
  w'.ownsRow w.heap.size 3 1 tv (runTold l ml fuel).length ((runTold l ml fuel).map (Value.int .i64)) ∧
  w'.ownsRow w.heap.size 58 2 av (runMap l ml fuel).length (prCells (runMap l ml fuel)) ∧ Below w.heap.size w w'
theorem ran_err {l : List St} {ml : List (Int × Int)} {fuel : Int} {w w' : World} {n : Int} (h : runErr l ml fuel = n) (hn : n ≠ 0) (hb : Below w.heap.size w w') :
    Ran l ml fuel w (.returned (.tuple #[.agg #[.int .i64 0, .slice none 0 0, .int .i64 0], .slice none 0 0, .int .i64 n])) w' := by
  have h0 : ¬ runErr l ml fuel = 0 := by rw [h]; exact hn
  refine ⟨.slice none 0 0, .slice none 0 0, ?_, ?_, ?_, hb⟩
  · simp [runSt, runTries, h, hn]
  · simp only [runTold, if_neg h0]; exact World.ownsRow_nil _ _ _ _
  · simp only [runMap, if_neg h0]; exact World.ownsRow_nil _ _ _ _
theorem vIn_bd : ∀ (l : List (Int × Int)) (k : Int), (∀ p ∈ l, p.2 ≤ 9999) → vIn l k ≤ 9999
  | [], _, _ => by simp [vIn]
  | p :: r, k, h => by
    unfold vIn
    split
    · exact h p (by simp)
    · exact vIn_bd r k (fun q hq => h q (by simp [hq]))
theorem vIn_le {l : List (Int × Int)} (h : mapB l = true) (k : Int) : vIn l k ≤ 9999 := by
  refine vIn_bd l k (fun p hp => ?_)
  obtain ⟨i, hi, rfl⟩ := List.getElem_of_mem hp
  rw [mapB_eq, List.all_eq_true] at h
  have := h _ (List.mem_range.2 hi)
  simp [goodP, hi] at this
  exact this.1.2.2
structure MoOk (n : Nat) (x : Mo) : Prop where
  len : x.regs.length = 4
  regs : ∀ r ∈ x.regs, 0 ≤ r ∧ r ≤ 9999
  puts : ∀ k v, x.puts k = some v → v ≤ 9999
  pc : x.pc ≤ n
  told : x.told.length ≤ x.done
theorem mo0_ok (n : Nat) : MoOk n mo0 := ⟨rfl, by simp [mo0], by simp [mo0], Nat.zero_le _, by simp [mo0]⟩
theorem reg_le {x : Mo} {n : Nat} (h : MoOk n x) (a : Int) : 0 ≤ reg x a ∧ reg x a ≤ 9999 := by
  unfold reg
  by_cases ha : a.toNat < x.regs.length
  · have e : x.regs.getD a.toNat 0 = x.regs[a.toNat] := by simp [List.getD, ha]
    rw [e]
    exact h.regs _ (List.getElem_mem _)
  · have e : x.regs.getD a.toNat 0 = 0 := by simp [List.getD, List.getElem?_eq_none (Nat.le_of_not_lt ha)]
    omega
theorem see_le {x : Mo} {n : Nat} (h : MoOk n x) {m : Int → Int} (hm : ∀ k, m k ≤ 9999) (k : Int) : see m x.puts k ≤ 9999 := by
  unfold see
  cases e : x.puts k with
  | none => simpa using hm k
  | some v => simpa using h.puts k v e
theorem setReg_ok {n : Nat} {x : Mo} (h : MoOk n x) (a : Int) {v : Int} (h0 : 0 ≤ v) (h1 : v ≤ 9999) : MoOk n (setReg x a v) :=
  ⟨by simpa [setReg] using h.len, fun r hr => by
    rcases List.mem_or_eq_of_mem_set hr with hr | rfl
    · exact h.regs r hr
    · exact ⟨h0, h1⟩, h.puts, h.pc, h.told⟩
theorem bec_ok {n : Nat} {x : Mo} (h : MoOk n x) (a v : Int) : MoOk n (bec x a v) := by
  unfold bec
  split
  · exact ⟨h.len, h.regs, h.puts, h.pc, h.told⟩
  · exact setReg_ok h a (by omega) (by omega)
theorem read_ok {n : Nat} {x : Mo} (h : MoOk n x) (r : List Bool) : MoOk n { x with read := r } := ⟨h.len, h.regs, h.puts, h.pc, h.told⟩
theorem bec_done (x : Mo) (a v : Int) : (bec x a v).done = x.done := by unfold bec; split <;> rfl
theorem stp_ok {n : Nat} {x : Mo} {s : St} {m : Int → Int} (h : MoOk n x) (hpc : x.pc < n) (hm : ∀ k, m k ≤ 9999) (hs : stB s x.pc n = true) : MoOk n (stp s m x) := by
  have h1 : MoOk n { x with done := x.done + 1, pc := x.pc + 1 } := ⟨h.len, h.regs, h.puts, hpc, Nat.le_succ_of_le h.told⟩
  have hsee := see_le h hm
  have hr := reg_le h
  unfold stB stepB at hs
  unfold stp
  simp only
  split at hs
  · rename_i e; rw [if_pos e]
    simp [inB] at hs
    exact setReg_ok h1 _ (by omega) (by omega)
  split at hs
  · rename_i e1 e; rw [if_neg e1, if_pos e]
    refine setReg_ok (read_ok h1 _) _ ?_ ?_ <;> split <;> first | omega | exact hsee _
  split at hs
  · rename_i e1 e2 e; rw [if_neg e1, if_neg e2, if_pos e]
    refine ⟨h1.len, h1.regs, fun k v hk => ?_, h1.pc, h1.told⟩
    simp only [putAt] at hk
    split at hk
    · injection hk with hk; rw [← hk]; exact (hr _).2
    · exact h.puts k v hk
  split at hs
  · rename_i e1 e2 e3 e; rw [if_neg e1, if_neg e2, if_neg e3, if_pos e]
    refine ⟨h1.len, h1.regs, fun k v hk => ?_, h1.pc, h1.told⟩
    simp only [putAt] at hk
    split at hk
    · injection hk with hk; omega
    · exact h.puts k v hk
  split at hs
  · rename_i e1 e2 e3 e4 e
    rw [if_neg e1, if_neg e2, if_neg e3, if_neg e4]
    by_cases e5 : s.op = 5
    · rw [if_pos e5]; exact bec_ok (read_ok h1 _) _ _
    · rw [if_neg e5, if_pos (by omega)]; exact bec_ok (read_ok h1 _) _ _
  split at hs
  · rename_i e1 e2 e3 e4 e5 e
    rw [if_neg e1, if_neg e2, if_neg e3, if_neg e4, if_neg (by omega), if_neg (by omega)]
    by_cases e7 : s.op = 7
    · rw [if_pos e7]; exact bec_ok h1 _ _
    · rw [if_neg e7, if_pos (by omega)]; exact bec_ok h1 _ _
  split at hs
  · rename_i e1 e2 e3 e4 e5 e7 e
    rw [if_neg e1, if_neg e2, if_neg e3, if_neg e4, if_neg (by omega), if_neg (by omega), if_neg (by omega), if_neg (by omega), if_pos e]
    simp [inB] at hs
    split
    · exact ⟨h1.len, h1.regs, h1.puts, by show x.pc + 1 + s.b.toNat ≤ n; omega, h1.told⟩
    · exact h1
  split at hs
  · rename_i e1 e2 e3 e4 e5 e7 e9 e
    rw [if_neg e1, if_neg e2, if_neg e3, if_neg e4, if_neg (by omega), if_neg (by omega), if_neg (by omega), if_neg (by omega), if_neg e9, if_pos e]
    split
    · exact ⟨h1.len, h1.regs, h1.puts, by show x.pc + 1 - s.b.toNat - 1 ≤ n; omega, h1.told⟩
    · exact h1
  split at hs
  · rename_i e1 e2 e3 e4 e5 e7 e9 e10 e
    rw [if_neg e1, if_neg e2, if_neg e3, if_neg e4, if_neg (by omega), if_neg (by omega), if_neg (by omega), if_neg (by omega), if_neg e9, if_neg e10, if_pos e]
    exact ⟨h1.len, h1.regs, h1.puts, h1.pc, by simpa using h.told⟩
  split at hs
  · rename_i e1 e2 e3 e4 e5 e7 e9 e10 e11 e
    rw [if_neg e1, if_neg e2, if_neg e3, if_neg e4, if_neg (by omega), if_neg (by omega), if_neg (by omega), if_neg (by omega), if_neg e9, if_neg e10, if_neg e11, if_pos e]
    exact ⟨h1.len, h1.regs, h1.puts, h1.pc, h1.told⟩
  · cases hs
theorem setReg_done (x : Mo) (a v : Int) : (setReg x a v).done = x.done := rfl
theorem putAt_done (x : Mo) (a v : Int) : (putAt x a v).done = x.done := rfl
theorem stp_done (s : St) (m : Int → Int) (x : Mo) : (stp s m x).done = x.done + 1 := by
  simp only [stp, apply_ite Mo.done, bec_done, setReg_done, putAt_done, ite_self]
theorem fin_ite {p : Prop} [Decidable p] {a b : Mo} {x : Int} (ha : a.fin = x ∨ a.fin = 4 ∨ a.fin = 5) (hb : b.fin = x ∨ b.fin = 4 ∨ b.fin = 5) : (if p then a else b).fin = x ∨ (if p then a else b).fin = 4 ∨ (if p then a else b).fin = 5 := by
  split <;> assumption
theorem bec_fin (x : Mo) (a v : Int) : (bec x a v).fin = x.fin ∨ (bec x a v).fin = 4 ∨ (bec x a v).fin = 5 := by
  unfold bec
  split
  · exact Or.inr (Or.inr rfl)
  · exact Or.inl rfl
theorem stp_fin (s : St) (m : Int → Int) (x : Mo) : (stp s m x).fin = x.fin ∨ (stp s m x).fin = 4 ∨ (stp s m x).fin = 5 := by
  unfold stp
  simp only
  exact fin_ite (Or.inl rfl) (fin_ite (Or.inl rfl) (fin_ite (Or.inl rfl) (fin_ite (Or.inl rfl) (fin_ite (bec_fin _ _ _) (fin_ite (bec_fin _ _ _) (fin_ite (bec_fin _ _ _) (fin_ite (bec_fin _ _ _)
    (fin_ite (fin_ite (Or.inl rfl) (Or.inl rfl)) (fin_ite (fin_ite (Or.inl rfl) (Or.inl rfl)) (fin_ite (Or.inl rfl) (fin_ite (Or.inr (Or.inl rfl)) (Or.inl rfl))))))))))))
theorem play_fin (l : List St) (m : Int → Int) : ∀ (n : Nat) (x : Mo), (x.fin = 0 ∨ x.fin = 4 ∨ x.fin = 5) → (play l m n x).fin = 0 ∨ (play l m n x).fin = 4 ∨ (play l m n x).fin = 5
  | 0, _, h => h
  | n + 1, x, h => by
    unfold play
    split
    · refine play_fin l m n _ ?_
      rcases stp_fin (l.getD x.pc stz) m x with e | e | e
      · rw [e]; exact h
      · exact Or.inr (Or.inl e)
      · exact Or.inr (Or.inr e)
    · exact h
def stOf (y : Mo) : Int := if y.fin = 0 then 2 else y.fin
def nextE (l : List St) (m : Int → Int) (fn : Nat) (x : Mo) : Int × Mo :=
  if l.length ≤ x.pc then (3, x) else if fn ≤ x.done then (5, x) else (stOf (stp (l.getD x.pc stz) m x), stp (l.getD x.pc stz) m x)
end Go.Proofs.YtlbmcdoldnajoaaGreat
