import Derived.Test.YtlbmcdoldnajoabProgX
import Derived.Test.YtlbmcdoldnajoabKPm

namespace Go.Proofs.Ytlbmcdoldnajoab
open Go.RowKit
/-- is a block one of the run's that are written? (The steps' lists are not.) -/
def MineK (o : Nat → Option Nat) (k : Nat) : Prop := ∃ q, o k = some q ∧ ¬ (6 ≤ q ∧ q % 3 = 0)
theorem mineK {o : Nat → Option Nat} {q k : Nat} (h : o k = some q) (hq : ¬ (6 ≤ q ∧ q % 3 = 0) := by omega) : MineK o k := ⟨q, h, hq⟩
theorem MineK.some {o : Nat → Option Nat} {k : Nat} (h : MineK o k) : o k ≠ none := by
  obtain ⟨q, h, _⟩ := h
  rw [h]; simp
theorem Fr.mineK {o o' : Nat → Option Nat} {w w' w'' : World} (h : Fr (MineK o) w w') (h' : Fr (MineK o') w' w'') (ho : Own w o o') : Fr (MineK o) w w'' := h.trans h' (fun k hk hm => by
  obtain ⟨q, h1, h2⟩ := hm
  exact ⟨q, by rw [← ho k hk]; exact h1, h2⟩)
/-- where it lies -/
structure KV where
  tv : Value
  ov : Value
  av : Value
  tb : List Nat
  sv : List Value
  fv : List Value
def runC (R : RM) (v : KV) : List Value := [ptrV R.xb, natV R.c.workers, natV R.c.queue, natV R.c.fuel, natV R.c.patience, v.tv, v.ov, v.av, .bool true, .bool true, natV R.again]
def tkC (t : TK) (s f : Value) : List Value := [s, natV t.kills, natV t.fails, .bool t.gone, f]
/-- the run at block b, but for the parts in X; o: whose each block is -/
structure KPr (X : Nat → Prop) (o : Nat → Option Nat) (w : World) (b : Nat) (R : RM) (v : KV) : Prop where
  blk : ¬ X 0 → Blk o 0 w b (runC R v).toArray 34
  tasks : ¬ X 1 → Row o 1 w 57 1 v.tv R.tasks.length (v.tb.map ptrV)
  order : ¬ X 2 → Row o 2 w 3 1 v.ov R.order.length (R.order.map natV)
  at_ : ¬ X 3 → Row o 3 w 3 1 v.av R.at_.length (R.at_.map natV)
  desk : ¬ X 4 → PDd (fun k => o k = some 4) w R.xb R.d
  tb : ∀ i, i < R.tasks.length → ¬ X (5 + 3 * i) → Blk o (5 + 3 * i) w (v.tb.getD i 0) (tkC (R.tasks.getD i tk0) (v.sv.getD i nilV) (v.fv.getD i nilV)).toArray 56
  st : ∀ i, i < R.tasks.length → ¬ X (6 + 3 * i) → Row o (6 + 3 * i) w 78 4 (v.sv.getD i nilV) (R.tasks.getD i tk0).steps.length (stCells (R.tasks.getD i tk0).steps)
  fo : ∀ i, i < R.tasks.length → ¬ X (7 + 3 * i) → Row o (7 + 3 * i) w 3 1 (v.fv.getD i nilV) (R.tasks.getD i tk0).foes.length ((R.tasks.getD i tk0).foes.map natV)
  bl : v.tb.length = R.tasks.length
  sl : v.sv.length = R.tasks.length
  fl : v.fv.length = R.tasks.length
def KP (o : Nat → Option Nat) (w : World) (b : Nat) (R : RM) (v : KV) : Prop := KPr noX o w b R v
theorem PDd.keep {F F' R : Nat → Prop} {w w' : World} {b : Nat} {d : DeskM} (h : PDd F w b d) (hf : Fr R w w') (hR : ∀ k, F k → ¬ R k) (hF : ∀ k, k < w.heap.size → F k → F' k) : PDd F' w' b d := by
  have h1 := kitP.mono h hF
  have h2 : PDd (fun k => k < w.heap.size ∧ F k) w b d := kitP.mono h (fun k hk hf => ⟨hk, hf⟩)
  have h3 : PDd (fun k => k < w.heap.size ∧ F k) w' b d := kitP.fr h2 hf (fun k hk => hR k hk.2)
  exact kitP.mono h3 (fun k _ hk => hF k hk.1 hk.2)
theorem KPr.keep {X R : Nat → Prop} {o o' : Nat → Option Nat} {w w' : World} {b : Nat} {p : RM} {v : KV} (h : KPr X o w b p v) (hf : Fr R w w') (hR : ∀ k q, o k = some q → R k → X q) (ho : Own w o o') : KPr X o' w' b p v :=
  have hq : ∀ q, ¬ X q → ∀ k, o k = some q → ¬ R k := fun q hx k hk hr => hx (hR k q hk hr)
  { h with
    blk := fun hx => (h.blk hx).keep hf (hq _ hx) ho
    tasks := fun hx => (h.tasks hx).keep hf (hq _ hx) ho
    order := fun hx => (h.order hx).keep hf (hq _ hx) ho
    at_ := fun hx => (h.at_ hx).keep hf (hq _ hx) ho
    desk := fun hx => (h.desk hx).keep hf (hq _ hx) (fun k hk e => (ho k hk).trans e)
    tb := fun i hi hx => (h.tb i hi hx).keep hf (hq _ hx) ho
    st := fun i hi hx => (h.st i hi hx).keep hf (hq _ hx) ho
    fo := fun i hi hx => (h.fo i hi hx).keep hf (hq _ hx) ho }
theorem KPr.less {X Y : Nat → Prop} {o : Nat → Option Nat} {w : World} {b : Nat} {p : RM} {v : KV} (h : KPr X o w b p v) (hXY : ∀ q, X q → Y q) : KPr Y o w b p v :=
  have hq : ∀ {q}, ¬ Y q → ¬ X q := fun hy hx => hy (hXY _ hx)
  { h with
    blk := fun hx => h.blk (hq hx)
    tasks := fun hx => h.tasks (hq hx)
    order := fun hx => h.order (hq hx)
    at_ := fun hx => h.at_ (hq hx)
    desk := fun hx => h.desk (hq hx)
    tb := fun i hi hx => h.tb i hi (hq hx)
    st := fun i hi hx => h.st i hi (hq hx)
    fo := fun i hi hx => h.fo i hi (hq hx) }
namespace KP
variable {o o' : Nat → Option Nat} {w w1 : World} {b : Nat} {p : RM} {v : KV}
/-- nothing of it was written -/
theorem fr (h : KP o w b p v) {R : Nat → Prop} (hf : Fr R w w1) (hR : ∀ k, o k ≠ none → ¬ R k) (ho : Own w o o') : KP o' w1 b p v :=
  KPr.keep h hf (fun k q hk hr => absurd hr (hR k (by rw [hk]; simp))) ho
theorem below (h : KP o w b p v) (hb : Below w.heap.size w w1) : KP o w1 b p v := h.fr (R := fun _ => False) (Fr.of_below hb) (fun _ _ h => h) (Own.refl _ _)
theorem own (h : KP o w b p v) (ho : Own w o o') : KP o' w b p v := h.fr (R := fun _ => False) (Fr.refl _ _) (fun _ _ h => h) ho
/-- but for some parts -/
theorem upd (h : KP o w b p v) (X : Nat → Prop) {R : Nat → Prop} (hf : Fr R w w1) (hR : ∀ k q, o k = some q → R k → X q) (ho : Own w o o') : KPr X o' w1 b p v :=
  (KPr.less (Y := X) h (fun _ hx => absurd hx nX)).keep hf hR ho
theorem rblk (h : KP o w b p v) : w.heap[b]? = some (.cells (runC p v).toArray 34 (0, 0)) := (h.blk nX).2
theorem free (h : KP o w b p v) (i : Nat) : w.frozen? ⟨b, i, none⟩ = false := blk_free h.rblk
theorem lt (h : KP o w b p v) : b < w.heap.size := blk_lt h.rblk
theorem cell (h : KP o w b p v) (j : Nat) : w.cell? ⟨b, j, none⟩ = (runC p v)[j]? := by rw [blk_cell h.rblk, List.getElem?_toArray]
theorem task (h : KP o w b p v) {i : Nat} (hi : i < p.tasks.length) : w.heap[v.tb.getD i 0]? = some (.cells (tkC (p.tasks.getD i tk0) (v.sv.getD i nilV) (v.fv.getD i nilV)).toArray 56 (0, 0)) := (h.tb i hi nX).2
theorem cTk (h : KP o w b p v) {i : Nat} (hi : i < p.tasks.length) (j : Nat) : w.cell? ⟨v.tb.getD i 0, j, none⟩ = (tkC (p.tasks.getD i tk0) (v.sv.getD i nilV) (v.fv.getD i nilV))[j]? := by rw [blk_cell (h.task hi), List.getElem?_toArray]
/-- a cell of the run's own block -/
theorem setRun (hblk : Blk o 0 w b (runC p v).toArray 34) {p' : RM} {v' : KV} (hr : KPr (fun q => q = 0) o w b p' v') {j : Nat} {x : Value} (ht : (runC p v).set j x = runC p' v') : KP o (w.setCell ⟨b, j, none⟩ x) b p' v' := by
  have hf : Fr (fun k => k = b) w (w.setCell ⟨b, j, none⟩ x) := (Fr.refl (fun k => k = b) w).setCell (p := ⟨b, j, none⟩) (fun _ => rfl) x
  have k := hr.keep hf (fun k q hk e => by subst e; rw [hblk.1] at hk; injection hk with hk; exact hk.symm) (Own.refl w o)
  exact { k with
    blk := fun _ => ⟨hblk.1, by rw [blk_set hblk.2, List.setIfInBounds_toArray, ht]⟩
    tasks := fun _ => k.tasks (by omega)
    order := fun _ => k.order (by omega)
    at_ := fun _ => k.at_ (by omega)
    desk := fun _ => k.desk (by omega)
    tb := fun i hi _ => k.tb i hi (by omega)
    st := fun i hi _ => k.st i hi (by omega)
    fo := fun i hi _ => k.fo i hi (by omega) }
theorem setOk (h : KP o w b p v) : KP o (w.setCell ⟨b, 8, none⟩ (.bool true)) b p v ∧ Fr (MineK o) w (w.setCell ⟨b, 8, none⟩ (.bool true)) :=
  ⟨setRun (h.blk nX) (p' := p) (v' := v) (KPr.less h (fun _ hx => absurd hx nX)) rfl, (Fr.refl _ w).setCell (p := ⟨b, 8, none⟩) (fun _ => mineK (h.blk nX).1) _⟩
theorem setAgain (h : KP o w b p v) (n : Nat) : KP o (w.setCell ⟨b, 10, none⟩ (.int .i64 (n : Int))) b { p with again := n } v ∧ Fr (MineK o) w (w.setCell ⟨b, 10, none⟩ (.int .i64 (n : Int))) := by
  have k : KPr (fun q => q = 0) o w b p v := KPr.less h (fun _ hx => absurd hx nX)
  exact ⟨setRun (h.blk nX) (p' := { p with again := n }) (v' := v) (x := .int .i64 (n : Int)) (j := 10) { k with blk := fun hx => absurd rfl hx } rfl, (Fr.refl _ w).setCell (p := ⟨b, 10, none⟩) (fun _ => mineK (h.blk nX).1) _⟩
/-- another ticket at a worker's place -/
theorem setAt (h : KP o w b p v) {g cap : Nat} (hv : v.av = .slice (some ⟨g, 0, none⟩) p.at_.length cap) (i n : Nat) : KP o (w.setCell ⟨g, i, none⟩ (.int .i64 (n : Int))) b { p with at_ := p.at_.set i n } v ∧ Fr (MineK o) w (w.setCell ⟨g, i, none⟩ (.int .i64 (n : Int))) := by
  have hr := h.at_ nX
  have hog : o g = some 3 := hr.2 g (by rw [hv]; rfl)
  have hf : Fr (fun k => k = g) w (w.setCell ⟨g, i, none⟩ (.int .i64 (n : Int))) := (Fr.refl (fun k => k = g) w).setCell (p := ⟨g, i, none⟩) (fun _ => rfl) _
  have k := h.upd (fun q => q = 3) hf (fun k q hk e => by subst e; rw [hog] at hk; injection hk with hk; exact hk.symm) (Own.refl w o)
  refine ⟨?_, hf.mono (fun _ _ e => by subst e; exact mineK hog)⟩
  exact { k with
    blk := fun _ => k.blk (by omega)
    tasks := fun _ => k.tasks (by omega)
    order := fun _ => k.order (by omega)
    at_ := fun _ => by
      have h1 := hr.1
      rw [hv] at h1
      have h2 := h1.stored i (.int .i64 (n : Int))
      refine ⟨?_, hr.2⟩
      show (w.setCell ⟨g, i, none⟩ (.int .i64 (n : Int))).ownsRow 0 3 1 v.av (p.at_.set i n).length ((p.at_.set i n).map natV)
      rw [hv, List.length_set, List.map_set]
      exact h2.1
    desk := fun _ => k.desk (by omega)
    tb := fun i hi _ => k.tb i hi (by omega)
    st := fun i hi _ => k.st i hi (by omega)
    fo := fun i hi _ => k.fo i hi (by omega) }
/-- the row of those that ended -/
theorem setOrder (h : KP o w b p v) (ho : Own w o o') (hf : Fr (fun k => o k = some 2) w w1) {x : Value} {l : List Nat} (hrow : Row o' 2 w1 3 1 x l.length (l.map natV)) :
    KP o' (w1.setCell ⟨b, 6, none⟩ x) b { p with order := l } { v with ov := x } ∧ Fr (MineK o) w (w1.setCell ⟨b, 6, none⟩ x) := by
  have hb := h.blk nX
  have hb1 : Blk o' 0 w1 b (runC p v).toArray 34 := hb.keep hf (fun k hk e => by rw [hk] at e; injection e with e; omega) ho
  have k := h.upd (fun q => q = 0 ∨ q = 2) hf (fun k q hk e => by rw [e] at hk; injection hk with hk; exact Or.inr hk.symm) ho
  refine ⟨setRun (p' := { p with order := l }) (v' := { v with ov := x }) (x := x) (j := 6) hb1 ?_ rfl, (hf.mono (T := MineK o) (fun k _ e => mineK e)).setCell (p := ⟨b, 6, none⟩) (fun _ => mineK hb.1) _⟩
  exact { k with
    blk := fun hx => absurd rfl hx
    tasks := fun hx => k.tasks (by omega)
    order := fun _ => hrow
    at_ := fun hx => k.at_ (by omega)
    desk := fun hx => k.desk (by omega)
    tb := fun i hi hx => k.tb i hi (by omega)
    st := fun i hi hx => k.st i hi (by omega)
    fo := fun i hi hx => k.fo i hi (by omega) }
/-- a call of the desk -/
theorem deskStep (h : KP o w b p v) {d' : DeskM} (hd : PDd (fun k => grow w o 4 k = some 4) w1 p.xb d') (hf : Fr (fun k => grow w o 4 k = some 4) w w1) :
    KP (grow w o 4) w1 b { p with d := d' } v ∧ Fr (MineK o) w w1 := by
  have hf2 : Fr (fun k => o k = some 4) w w1 := hf.mono (fun k hk e => by rw [own_grow w o 4 k hk] at e; exact e)
  have k := h.upd (fun q => q = 4) hf2 (fun k q hk e => by rw [e] at hk; injection hk with hk; exact hk.symm) (own_grow w o 4)
  exact ⟨{ k with
    blk := fun _ => k.blk (by omega)
    tasks := fun _ => k.tasks (by omega)
    order := fun _ => k.order (by omega)
    at_ := fun _ => k.at_ (by omega)
    desk := fun _ => hd
    tb := fun i hi _ => k.tb i hi (by omega)
    st := fun i hi _ => k.st i hi (by omega)
    fo := fun i hi _ => k.fo i hi (by omega) }, hf2.mono (fun _ _ e => mineK e)⟩
theorem deskAt (h : KP o w b p v) : PDd (fun k => grow w o 4 k = some 4) w p.xb p.d := kitP.mono (h.desk nX) (fun k hk e => (own_grow w o 4 k hk).trans e)
/-- a cell of a task's block -/
theorem setTk (h : KP o w b p v) {i : Nat} (hi : i < p.tasks.length) {c : Nat} {x : Value} {t' : TK} (he : (tkC (p.tasks.getD i tk0) (v.sv.getD i nilV) (v.fv.getD i nilV)).set c x = tkC t' (v.sv.getD i nilV) (v.fv.getD i nilV))
    (hs : t'.steps = (p.tasks.getD i tk0).steps) (ht : t'.foes = (p.tasks.getD i tk0).foes) :
    KP o (w.setCell ⟨v.tb.getD i 0, c, none⟩ x) b { p with tasks := p.tasks.set i t' } v ∧ Fr (MineK o) w (w.setCell ⟨v.tb.getD i 0, c, none⟩ x) := by
  obtain ⟨hb1, hb2⟩ := h.tb i hi nX
  have hf : Fr (fun k => k = v.tb.getD i 0) w (w.setCell ⟨v.tb.getD i 0, c, none⟩ x) := (Fr.refl (fun k => k = v.tb.getD i 0) w).setCell (p := ⟨v.tb.getD i 0, c, none⟩) (fun _ => rfl) x
  have k := h.upd (fun q => q = 5 + 3 * i) hf (fun k q hk e => by subst e; rw [hb1] at hk; injection hk with hk; exact hk.symm) (Own.refl w o)
  have hlen : (p.tasks.set i t').length = p.tasks.length := List.length_set ..
  have g1 : (p.tasks.set i t').getD i tk0 = t' := by simp [List.getD, hi]
  have g2 : ∀ m, m ≠ i → (p.tasks.set i t').getD m tk0 = p.tasks.getD m tk0 := fun m hm => by simp [List.getD, List.getElem?_set_ne (Ne.symm hm)]
  have gs : ∀ m, ((p.tasks.set i t').getD m tk0).steps = (p.tasks.getD m tk0).steps := fun m => by
    by_cases e : m = i
    · subst e; rw [g1, hs]
    · rw [g2 m e]
  have gt : ∀ m, ((p.tasks.set i t').getD m tk0).foes = (p.tasks.getD m tk0).foes := fun m => by
    by_cases e : m = i
    · subst e; rw [g1, ht]
    · rw [g2 m e]
  refine ⟨?_, hf.mono (fun _ _ e => by subst e; exact mineK hb1)⟩
  exact { blk := fun _ => k.blk (by omega)
          tasks := fun _ => by show Row _ _ _ _ _ _ (p.tasks.set i t').length _; rw [hlen]; exact k.tasks (by omega)
          order := fun _ => k.order (by omega)
          at_ := fun _ => k.at_ (by omega)
          desk := fun _ => k.desk (by omega)
          tb := fun m hm _ => by
            simp only [hlen] at hm
            by_cases e : m = i
            · subst e
              refine ⟨hb1, ?_⟩
              simp only [g1]
              rw [blk_set hb2, List.setIfInBounds_toArray, he]
            · simp only [g2 m e]
              exact k.tb m hm (by omega)
          st := fun m hm _ => by simp only [hlen] at hm; simp only [gs m]; exact k.st m hm (by omega)
          fo := fun m hm _ => by simp only [hlen] at hm; simp only [gt m]; exact k.fo m hm (by omega)
          bl := by simp only [hlen]; exact k.bl
          sl := by simp only [hlen]; exact k.sl
          fl := by simp only [hlen]; exact k.fl }
/-- a task's foes -/
theorem setFoes (h : KP o w b p v) (ho : Own w o o') {i : Nat} (hi : i < p.tasks.length) (hf1 : Fr (fun k => o k = some (7 + 3 * i)) w w1) {x : Value} {l : List Nat} (hrow : Row o' (7 + 3 * i) w1 3 1 x l.length (l.map natV)) :
    KP o' (w1.setCell ⟨v.tb.getD i 0, 4, none⟩ x) b { p with tasks := p.tasks.set i { p.tasks.getD i tk0 with foes := l } } { v with fv := v.fv.set i x } ∧ Fr (MineK o) w (w1.setCell ⟨v.tb.getD i 0, 4, none⟩ x) := by
  obtain ⟨hb1, hb2⟩ := h.tb i hi nX
  have hfl := h.fl
  have hf : Fr (fun k => o k = some (7 + 3 * i) ∨ k = v.tb.getD i 0) w (w1.setCell ⟨v.tb.getD i 0, 4, none⟩ x) := (hf1.mono (T := fun k => o k = some (7 + 3 * i) ∨ k = v.tb.getD i 0) (fun _ _ h => Or.inl h)).setCell (p := ⟨v.tb.getD i 0, 4, none⟩) (fun _ => Or.inr rfl) x
  have k := h.upd (fun q => q = 5 + 3 * i ∨ q = 7 + 3 * i) hf (fun k q hk e => by
    rcases e with e | e
    · rw [e] at hk; injection hk with hk; exact Or.inr hk.symm
    · subst e; rw [hb1] at hk; injection hk with hk; exact Or.inl hk.symm) ho
  have hb3 := hf1.blk hb2 (fun h => by rw [hb1] at h; injection h with h; omega)
  obtain ⟨t', ht'⟩ : ∃ t', t' = { p.tasks.getD i tk0 with foes := l } := ⟨_, rfl⟩
  rw [← ht']
  have hlen : (p.tasks.set i t').length = p.tasks.length := List.length_set ..
  have g1 : (p.tasks.set i t').getD i tk0 = t' := by simp [List.getD, hi]
  have g2 : ∀ m, m ≠ i → (p.tasks.set i t').getD m tk0 = p.tasks.getD m tk0 := fun m hm => by simp [List.getD, List.getElem?_set_ne (Ne.symm hm)]
  have s1 : (v.fv.set i x).getD i nilV = x := by simp [List.getD, hfl, hi]
  have s2 : ∀ m, m ≠ i → (v.fv.set i x).getD m nilV = v.fv.getD m nilV := fun m hm => by simp [List.getD, List.getElem?_set_ne (Ne.symm hm)]
  have gt : ∀ m, ((p.tasks.set i t').getD m tk0).steps = (p.tasks.getD m tk0).steps := fun m => by
    by_cases e : m = i
    · subst e; rw [g1, ht']
    · rw [g2 m e]
  refine ⟨?_, hf.mono (fun _ _ e => by rcases e with e | e; exact mineK e; subst e; exact mineK hb1)⟩
  exact { blk := fun _ => k.blk (by omega)
          tasks := fun _ => by show Row _ _ _ _ _ _ (p.tasks.set i t').length _; rw [hlen]; exact k.tasks (by omega)
          order := fun _ => k.order (by omega)
          at_ := fun _ => k.at_ (by omega)
          desk := fun _ => k.desk (by omega)
          tb := fun m hm _ => by
            simp only [hlen] at hm
            by_cases e : m = i
            · subst e
              refine ⟨(ho _ (blk_lt hb2)).trans hb1, ?_⟩
              simp only [g1, s1]
              rw [blk_set hb3, List.setIfInBounds_toArray, ht']
              rfl
            · simp only [g2 m e, s2 m e]
              exact k.tb m hm (by omega)
          st := fun m hm _ => by simp only [hlen] at hm; simp only [gt m]; exact k.st m hm (by omega)
          fo := fun m hm _ => by
            simp only [hlen] at hm
            by_cases e : m = i
            · subst e
              simp only [g1, s1]
              rw [ht']
              exact ⟨owns_set hrow.1 (fun e2 => by
                have e3 := hrow.2 _ e2
                rw [ho _ (blk_lt hb2), hb1] at e3
                injection e3 with e3
                omega) 4 x, hrow.2⟩
            · simp only [g2 m e, s2 m e]
              exact k.fo m hm (by omega)
          bl := by simp only [hlen]; exact k.bl
          sl := by simp only [hlen]; exact k.sl
          fl := by simp only [hlen, List.length_set]; exact k.fl }
/-- one task more -/
theorem addTask (h : KP o w b p v) (ho : Own w o o') {jb : Nat} {x sv : Value} {l : List St} (hnew : Blk o' (5 + 3 * p.tasks.length) w1 jb (tkC ⟨l, 0, 0, false, []⟩ sv nilV).toArray 56)
    (hst : Row o' (6 + 3 * p.tasks.length) w1 78 4 sv l.length (stCells l)) (hrow : Row o' 1 w1 57 1 x (p.tasks.length + 1) (v.tb.map ptrV ++ [ptrV jb])) (hf : Fr (fun k => o k = some 1) w w1) :
    KP o' (w1.setCell ⟨b, 5, none⟩ x) b { p with tasks := p.tasks ++ [⟨l, 0, 0, false, []⟩] } { v with tv := x, tb := v.tb ++ [jb], sv := v.sv ++ [sv], fv := v.fv ++ [nilV] } ∧ Fr (MineK o) w (w1.setCell ⟨b, 5, none⟩ x) := by
  have hb := h.blk nX
  have hb1 : Blk o' 0 w1 b (runC p v).toArray 34 := hb.keep hf (fun k hk e => by rw [hk] at e; injection e with e; omega) ho
  have k := h.upd (fun q => q = 0 ∨ q = 1) hf (fun k q hk e => by rw [e] at hk; injection hk with hk; exact Or.inr hk.symm) ho
  have hbl := h.bl
  have hsl := h.sl
  have hfl := h.fl
  have hL : (p.tasks ++ [(⟨l, 0, 0, false, []⟩ : TK)]).length = p.tasks.length + 1 := by simp
  have hcase : ∀ i, i < p.tasks.length + 1 → i < p.tasks.length ∨ i = p.tasks.length := fun i hi => by omega
  have gj : ∀ i, i < p.tasks.length → (p.tasks ++ [(⟨l, 0, 0, false, []⟩ : TK)]).getD i tk0 = p.tasks.getD i tk0 := fun i hi => by simp [List.getD, List.getElem?_append_left hi]
  have gj' : (p.tasks ++ [(⟨l, 0, 0, false, []⟩ : TK)]).getD p.tasks.length tk0 = ⟨l, 0, 0, false, []⟩ := by simp [List.getD]
  have gb : ∀ i, i < p.tasks.length → (v.tb ++ [jb]).getD i 0 = v.tb.getD i 0 := fun i hi => by simp [List.getD, List.getElem?_append_left (show i < v.tb.length by omega)]
  have gb' : (v.tb ++ [jb]).getD p.tasks.length 0 = jb := by simp [List.getD, ← hbl]
  have gs : ∀ i, i < p.tasks.length → (v.sv ++ [sv]).getD i nilV = v.sv.getD i nilV := fun i hi => by simp [List.getD, List.getElem?_append_left (show i < v.sv.length by omega)]
  have gs' : (v.sv ++ [sv]).getD p.tasks.length nilV = sv := by simp [List.getD, ← hsl]
  have gt : ∀ i, i < p.tasks.length → (v.fv ++ [nilV]).getD i nilV = v.fv.getD i nilV := fun i hi => by simp [List.getD, List.getElem?_append_left (show i < v.fv.length by omega)]
  have gt' : (v.fv ++ [nilV]).getD p.tasks.length nilV = nilV := by simp [List.getD, ← hfl]
  refine ⟨setRun (p' := { p with tasks := p.tasks ++ [⟨l, 0, 0, false, []⟩] }) (v' := { v with tv := x, tb := v.tb ++ [jb], sv := v.sv ++ [sv], fv := v.fv ++ [nilV] }) (x := x) (j := 5) hb1 ?_ rfl, (hf.mono (T := MineK o) (fun k _ e => mineK e)).setCell (p := ⟨b, 5, none⟩) (fun _ => mineK hb.1) _⟩
  exact { blk := fun hx => absurd rfl hx
          tasks := fun _ => by
            show Row o' 1 w1 _ 1 x (p.tasks ++ [_]).length ((v.tb ++ [jb]).map ptrV)
            rw [hL, List.map_append]; exact hrow
          order := fun hx => k.order (by omega)
          at_ := fun hx => k.at_ (by omega)
          desk := fun hx => k.desk (by omega)
          tb := fun i hi _ => by
            simp only [hL] at hi
            rcases hcase i hi with hi | rfl
            · simp only [gj i hi, gb i hi, gs i hi, gt i hi]; exact k.tb i hi (by omega)
            · simp only [gj', gb', gs', gt']; exact hnew
          st := fun i hi _ => by
            simp only [hL] at hi
            rcases hcase i hi with hi | rfl
            · simp only [gj i hi, gs i hi]; exact k.st i hi (by omega)
            · simp only [gj', gs']; exact hst
          fo := fun i hi _ => by
            simp only [hL] at hi
            rcases hcase i hi with hi | rfl
            · simp only [gj i hi, gt i hi]; exact k.fo i hi (by omega)
            · simp only [gj', gt']; exact ⟨World.ownsRow_nil _ _ _ _, fun k hk => by cases hk⟩
          bl := by simp [hbl]
          sl := by simp [hsl]
          fl := by simp [hfl] }
end KP
end Go.Proofs.Ytlbmcdoldnajoab
