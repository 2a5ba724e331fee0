import Derived.Test.YtlbmcdoldnajoaaGreatPHistB
namespace Go.Proofs.YtlbmcdoldnajoaaGreat
open Go.RowKit
def Mine (o : Nat → Option Nat) (k : Nat) : Prop := o k ≠ none
theorem Own.trans {w w' : World} {o o' o'' : Nat → Option Nat} (h : Own w o o') (h' : Own w' o' o'') (hs : w.heap.size ≤ w'.heap.size) : Own w o o'' := fun k hk => (h' k (by omega)).trans (h k hk)
theorem Fr.mine {o o' : Nat → Option Nat} {w w' w'' : World} (h : Fr (Mine o) w w') (h' : Fr (Mine o') w' w'') (ho : Own w o o') : Fr (Mine o) w w'' := h.trans h' (fun k hk hm => by unfold Mine at *; rw [← ho k hk]; exact hm)
def grow (w : World) (o : Nat → Option Nat) (q : Nat) : Nat → Option Nat := fun k => if k < w.heap.size then o k else some q
theorem own_grow (w : World) (o : Nat → Option Nat) (q : Nat) : Own w o (grow w o q) := fun _ hk => if_pos hk
theorem grow_new {w : World} {o : Nat → Option Nat} {q k : Nat} (h : w.heap.size ≤ k) : grow w o q k = some q := if_neg (by omega)
def Stp (o : Nat → Option Nat) (w : World) (b : Nat) (ts : List Nat) (wb : Nat) (p' : PM) (w' : World) : Prop := ∃ o' v', PD o' w' b p' v' ∧ Own w o o' ∧ Fr (Mine o) w w' ∧ v'.ts = ts ∧ v'.wb = wb
section
variable {o o' : Nat → Option Nat} {w w1 : World} {b : Nat} {p : PM} {v : PV}
theorem PD.mine {o : Nat → Option Nat} {q k : Nat} (h : o k = some q) : Mine o k := by unfold Mine; rw [h]; simp
theorem PDr.setTail {p' : PM} {v' : PV} (hblk : Blk o 0 w b (deskC p v).toArray 77) (hr : PDr (fun q => q = 0) o w b p' v') (hc : p'.c = p.c) (hv : p'.vals = p.vals) {j : Nat} {x : Value} (ht : (tailC p v).set j x = tailC p' v') :
    PD o (w.setCell ⟨b, 36 + j, none⟩ x) b p' v' := by
  have hf : Fr (fun k => k = b) w (w.setCell ⟨b, 36 + j, none⟩ x) := (Fr.refl (fun k => k = b) w).setCell (p := ⟨b, 36 + j, none⟩) (fun _ => rfl) x
  have k := hr.keep hf (fun k q hk e => by subst e; rw [hblk.1] at hk; injection hk with hk; exact hk.symm) (Own.refl w o)
  exact { k with
    blk := fun _ => ⟨hblk.1, by rw [blk_set hblk.2, deskC_set p v j x hc hv ht]⟩
    jobs := fun _ => k.jobs (by omega)
    queue := fun _ => k.queue (by omega)
    urg := fun _ => k.urg (by omega)
    known := fun _ => k.known (by omega)
    work := fun _ => k.work (by omega)
    tb := fun i hi _ => k.tb i hi (by omega)
    st := fun i hi _ => k.st i hi (by omega)
    told := fun i hi _ => k.told i hi (by omega)
    rtold := fun i hi _ => k.rtold i hi (by omega) }
theorem PD.setCount (h : PD o w b p v) (n : Nat) : PD o (w.setCell ⟨b, 36, none⟩ (.int .i64 (n : Int))) b { p with count := n } v ∧ Fr (Mine o) w (w.setCell ⟨b, 36, none⟩ (.int .i64 (n : Int))) := by
  have k : PDr (fun q => q = 0) o w b p v := PDr.less h (fun _ hx => absurd hx nX)
  exact ⟨PDr.setTail (p' := { p with count := n }) (v' := v) (x := .int .i64 (n : Int)) (j := 0) (h.blk nX) { k with blk := fun hx => absurd rfl hx } rfl rfl rfl, (Fr.refl _ w).setCell (p := ⟨b, 36, none⟩) (fun _ => PD.mine (h.blk nX).1) _⟩
theorem PD.setKnown (h : PD o w b p v) (ho : Own w o o') (hf : Fr (fun k => o k = some 4) w w1) {x : Value} {l : List KnM} (hrow : Row o' 4 w1 165 36 x l.length (knCells l)) (hk : ∀ u ∈ l, u.a.ok) :
    PD o' (w1.setCell ⟨b, 37, none⟩ x) b { p with known := l } { v with kv := x } ∧ Fr (Mine o) w (w1.setCell ⟨b, 37, none⟩ x) := by
  have hb := h.blk nX
  have hb1 : Blk o' 0 w1 b (deskC p v).toArray 77 := hb.keep hf (fun k hk e => by rw [hk] at e; injection e with e; omega) ho
  have k := (PDr.less (Y := fun q => q = 0 ∨ q = 4) h (fun _ hx => absurd hx nX)).keep hf (fun k q hk e => by rw [e] at hk; injection hk with hk; exact Or.inr hk.symm) ho
  refine ⟨PDr.setTail (p' := { p with known := l }) (v' := { v with kv := x }) (x := x) (j := 1) hb1 ?_ rfl rfl rfl, (hf.mono (T := Mine o) (fun k _ e => PD.mine e)).setCell (p := ⟨b, 37, none⟩) (fun _ => PD.mine hb.1) _⟩
  exact { k with
    blk := fun hx => absurd rfl hx
    jobs := fun hx => k.jobs (by omega)
    queue := fun hx => k.queue (by omega)
    urg := fun hx => k.urg (by omega)
    known := fun _ => hrow
    work := fun hx => k.work (by omega)
    tb := fun i hi hx => k.tb i hi (by omega)
    st := fun i hi hx => k.st i hi (by omega)
    told := fun i hi hx => k.told i hi (by omega)
    rtold := fun i hi hx => k.rtold i hi (by omega)
    kl := hk }
theorem PD.setQueue (h : PD o w b p v) (ho : Own w o o') (hf : Fr (fun k => o k = some 2) w w1) {x : Value} {l : List Nat} (hrow : Row o' 2 w1 125 1 x l.length (l.map (tkV v.ts))) :
    PD o' (w1.setCell ⟨b, 39, none⟩ x) b { p with queue := l } { v with qv := x } ∧ Fr (Mine o) w (w1.setCell ⟨b, 39, none⟩ x) := by
  have hb := h.blk nX
  have hb1 : Blk o' 0 w1 b (deskC p v).toArray 77 := hb.keep hf (fun k hk e => by rw [hk] at e; injection e with e; omega) ho
  have k := (PDr.less (Y := fun q => q = 0 ∨ q = 2) h (fun _ hx => absurd hx nX)).keep hf (fun k q hk e => by rw [e] at hk; injection hk with hk; exact Or.inr hk.symm) ho
  refine ⟨PDr.setTail (p' := { p with queue := l }) (v' := { v with qv := x }) (x := x) (j := 3) hb1 ?_ rfl rfl rfl, (hf.mono (T := Mine o) (fun k _ e => PD.mine e)).setCell (p := ⟨b, 39, none⟩) (fun _ => PD.mine hb.1) _⟩
  exact { k with
    blk := fun hx => absurd rfl hx
    jobs := fun hx => k.jobs (by omega)
    queue := fun _ => hrow
    urg := fun hx => k.urg (by omega)
    known := fun hx => k.known (by omega)
    work := fun hx => k.work (by omega)
    tb := fun i hi hx => k.tb i hi (by omega)
    st := fun i hi hx => k.st i hi (by omega)
    told := fun i hi hx => k.told i hi (by omega)
    rtold := fun i hi hx => k.rtold i hi (by omega)
    kl := k.kl }
theorem PD.setUrg (h : PD o w b p v) (ho : Own w o o') (hf : Fr (fun k => o k = some 3) w w1) {x : Value} {l : List Nat} (hrow : Row o' 3 w1 125 1 x l.length (l.map (tkV v.ts))) :
    PD o' (w1.setCell ⟨b, 40, none⟩ x) b { p with urgent := l } { v with uv := x } ∧ Fr (Mine o) w (w1.setCell ⟨b, 40, none⟩ x) := by
  have hb := h.blk nX
  have hb1 : Blk o' 0 w1 b (deskC p v).toArray 77 := hb.keep hf (fun k hk e => by rw [hk] at e; injection e with e; omega) ho
  have k := (PDr.less (Y := fun q => q = 0 ∨ q = 3) h (fun _ hx => absurd hx nX)).keep hf (fun k q hk e => by rw [e] at hk; injection hk with hk; exact Or.inr hk.symm) ho
  refine ⟨PDr.setTail (p' := { p with urgent := l }) (v' := { v with uv := x }) (x := x) (j := 4) hb1 ?_ rfl rfl rfl, (hf.mono (T := Mine o) (fun k _ e => PD.mine e)).setCell (p := ⟨b, 40, none⟩) (fun _ => PD.mine hb.1) _⟩
  exact { k with
    blk := fun hx => absurd rfl hx
    jobs := fun hx => k.jobs (by omega)
    queue := fun hx => k.queue (by omega)
    urg := fun _ => hrow
    known := fun hx => k.known (by omega)
    work := fun hx => k.work (by omega)
    tb := fun i hi hx => k.tb i hi (by omega)
    st := fun i hi hx => k.st i hi (by omega)
    told := fun i hi hx => k.told i hi (by omega)
    rtold := fun i hi hx => k.rtold i hi (by omega)
    kl := k.kl }
theorem PD.setTk (h : PD o w b p v) {i : Nat} (hi : i < p.tasks.length) {c : Nat} {x : Value} {t' : TaskM} (he : (taskC i (p.tasks.getD i task0) (v.sv.getD i nilV) (v.tv.getD i nilV)).setIfInBounds c x = taskC i t' (v.sv.getD i nilV) (v.tv.getD i nilV))
    (hs : t'.steps = (p.tasks.getD i task0).steps) (ht : t'.told = (p.tasks.getD i task0).told) :
    PD o (w.setCell ⟨v.ts.getD i 0, c, none⟩ x) b { p with tasks := p.tasks.set i t' } v ∧ Fr (Mine o) w (w.setCell ⟨v.ts.getD i 0, c, none⟩ x) := by
  obtain ⟨hb1, hb2⟩ := h.tb i hi nX
  have hf : Fr (fun k => k = v.ts.getD i 0) w (w.setCell ⟨v.ts.getD i 0, c, none⟩ x) := (Fr.refl (fun k => k = v.ts.getD i 0) w).setCell (p := ⟨v.ts.getD i 0, c, none⟩) (fun _ => rfl) x
  have k := (PDr.less (Y := fun q => q = 6 + 4 * i) h (fun _ hx => absurd hx nX)).keep hf (fun k q hk e => by subst e; rw [hb1] at hk; injection hk with hk; exact hk.symm) (Own.refl w o)
  have hlen : (p.tasks.set i t').length = p.tasks.length := List.length_set ..
  have g1 : (p.tasks.set i t').getD i task0 = t' := by simp [List.getD, hi]
  have g2 : ∀ m, m ≠ i → (p.tasks.set i t').getD m task0 = p.tasks.getD m task0 := fun m hm => by simp [List.getD, List.getElem?_set_ne (Ne.symm hm)]
  have gs : ∀ m, ((p.tasks.set i t').getD m task0).steps = (p.tasks.getD m task0).steps := fun m => by
    by_cases e : m = i
    · subst e; rw [g1, hs]
    · rw [g2 m e]
  have gt : ∀ m, ((p.tasks.set i t').getD m task0).told = (p.tasks.getD m task0).told := fun m => by
    by_cases e : m = i
    · subst e; rw [g1, ht]
    · rw [g2 m e]
  refine ⟨?_, hf.mono (fun _ _ e => by subst e; exact PD.mine hb1)⟩
  exact { blk := fun _ => k.blk (by omega)
          jobs := fun _ => by show Row _ _ _ _ _ _ (p.tasks.set i t').length _; rw [hlen]; exact k.jobs (by omega)
          queue := fun _ => k.queue (by omega)
          urg := fun _ => k.urg (by omega)
          known := fun _ => k.known (by omega)
          work := fun _ => k.work (by omega)
          tb := fun m hm _ => by
            simp only [hlen] at hm
            by_cases e : m = i
            · subst e
              refine ⟨hb1, ?_⟩
              simp only [g1]
              rw [blk_set hb2, he]
            · simp only [g2 m e]
              exact k.tb m hm (by omega)
          st := fun m hm _ => by simp only [hlen] at hm; simp only [gs m]; exact k.st m hm (by omega)
          told := fun m hm _ => by simp only [hlen] at hm; simp only [gt m]; exact k.told m hm (by omega)
          rtold := fun m hm _ => k.rtold m hm (by omega)
          tsl := by simp only [hlen]; exact k.tsl
          sl := by simp only [hlen]; exact k.sl
          tl := by simp only [hlen]; exact k.tl
          rl := k.rl
          wl := k.wl
          kl := k.kl }
theorem PD.noSteps (h : PD o w b p v) {i : Nat} (hi : i < p.tasks.length) :
    PD o (w.setCell ⟨v.ts.getD i 0, 4, none⟩ nilV) b { p with tasks := p.tasks.set i { p.tasks.getD i task0 with steps := [] } } { v with sv := v.sv.set i nilV } ∧ Fr (Mine o) w (w.setCell ⟨v.ts.getD i 0, 4, none⟩ nilV) := by
  obtain ⟨hb1, hb2⟩ := h.tb i hi nX
  have hsl := h.sl
  have hf : Fr (fun k => k = v.ts.getD i 0) w (w.setCell ⟨v.ts.getD i 0, 4, none⟩ nilV) := (Fr.refl (fun k => k = v.ts.getD i 0) w).setCell (p := ⟨v.ts.getD i 0, 4, none⟩) (fun _ => rfl) nilV
  have k := (PDr.less (Y := fun q => q = 6 + 4 * i) h (fun _ hx => absurd hx nX)).keep hf (fun k q hk e => by subst e; rw [hb1] at hk; injection hk with hk; exact hk.symm) (Own.refl w o)
  obtain ⟨t', ht'⟩ : ∃ t', t' = { p.tasks.getD i task0 with steps := [] } := ⟨_, rfl⟩
  rw [← ht']
  have hlen : (p.tasks.set i t').length = p.tasks.length := List.length_set ..
  have g1 : (p.tasks.set i t').getD i task0 = t' := by simp [List.getD, hi]
  have g2 : ∀ m, m ≠ i → (p.tasks.set i t').getD m task0 = p.tasks.getD m task0 := fun m hm => by simp [List.getD, List.getElem?_set_ne (Ne.symm hm)]
  have s1 : (v.sv.set i nilV).getD i nilV = nilV := by simp [List.getD, hsl, hi]
  have s2 : ∀ m, m ≠ i → (v.sv.set i nilV).getD m nilV = v.sv.getD m nilV := fun m hm => by simp [List.getD, List.getElem?_set_ne (Ne.symm hm)]
  have gt : ∀ m, ((p.tasks.set i t').getD m task0).told = (p.tasks.getD m task0).told := fun m => by
    by_cases e : m = i
    · subst e; rw [g1, ht']
    · rw [g2 m e]
  refine ⟨?_, hf.mono (fun _ _ e => by subst e; exact PD.mine hb1)⟩
  exact { blk := fun _ => k.blk (by omega)
          jobs := fun _ => by show Row _ _ _ _ _ _ (p.tasks.set i t').length _; rw [hlen]; exact k.jobs (by omega)
          queue := fun _ => k.queue (by omega)
          urg := fun _ => k.urg (by omega)
          known := fun _ => k.known (by omega)
          work := fun _ => k.work (by omega)
          tb := fun m hm _ => by
            simp only [hlen] at hm
            by_cases e : m = i
            · subst e
              refine ⟨hb1, ?_⟩
              simp only [g1, s1]
              rw [blk_set hb2, ht']
              rfl
            · simp only [g2 m e, s2 m e]
              exact k.tb m hm (by omega)
          st := fun m hm _ => by
            simp only [hlen] at hm
            by_cases e : m = i
            · subst e
              simp only [g1, s1]
              rw [ht']
              exact ⟨World.ownsRow_nil _ _ _ _, fun k hk => by cases hk⟩
            · simp only [g2 m e, s2 m e]
              exact k.st m hm (by omega)
          told := fun m hm _ => by simp only [hlen] at hm; simp only [gt m]; exact k.told m hm (by omega)
          rtold := fun m hm _ => k.rtold m hm (by omega)
          tsl := by simp only [hlen]; exact k.tsl
          sl := by simp only [hlen, List.length_set]; exact k.sl
          tl := by simp only [hlen]; exact k.tl
          rl := k.rl
          wl := k.wl
          kl := k.kl }
theorem PD.setTold (h : PD o w b p v) (ho : Own w o o') {i : Nat} (hi : i < p.tasks.length) (hf1 : Fr (fun _ => False) w w1) {x : Value} {l : List Int} (hrow : Row o' (8 + 4 * i) w1 3 1 x l.length (l.map (Value.int .i64))) :
    PD o' (w1.setCell ⟨v.ts.getD i 0, 5, none⟩ x) b { p with tasks := p.tasks.set i { p.tasks.getD i task0 with told := l } } { v with tv := v.tv.set i x } ∧ Fr (Mine o) w (w1.setCell ⟨v.ts.getD i 0, 5, none⟩ x) := by
  obtain ⟨hb1, hb2⟩ := h.tb i hi nX
  have htl := h.tl
  have hf : Fr (fun k => k = v.ts.getD i 0) w (w1.setCell ⟨v.ts.getD i 0, 5, none⟩ x) := (hf1.mono (T := fun k => k = v.ts.getD i 0) (fun _ _ h => h.elim)).setCell (p := ⟨v.ts.getD i 0, 5, none⟩) (fun _ => rfl) x
  have k := (PDr.less (Y := fun q => q = 6 + 4 * i ∨ q = 8 + 4 * i) h (fun _ hx => absurd hx nX)).keep hf (fun k q hk e => by subst e; rw [hb1] at hk; injection hk with hk; exact Or.inl hk.symm) ho
  have hb3 := hf1.blk hb2 (fun h => h)
  obtain ⟨t', ht'⟩ : ∃ t', t' = { p.tasks.getD i task0 with told := l } := ⟨_, rfl⟩
  rw [← ht']
  have hlen : (p.tasks.set i t').length = p.tasks.length := List.length_set ..
  have g1 : (p.tasks.set i t').getD i task0 = t' := by simp [List.getD, hi]
  have g2 : ∀ m, m ≠ i → (p.tasks.set i t').getD m task0 = p.tasks.getD m task0 := fun m hm => by simp [List.getD, List.getElem?_set_ne (Ne.symm hm)]
  have s1 : (v.tv.set i x).getD i nilV = x := by simp [List.getD, htl, hi]
  have s2 : ∀ m, m ≠ i → (v.tv.set i x).getD m nilV = v.tv.getD m nilV := fun m hm => by simp [List.getD, List.getElem?_set_ne (Ne.symm hm)]
  have gt : ∀ m, ((p.tasks.set i t').getD m task0).steps = (p.tasks.getD m task0).steps := fun m => by
    by_cases e : m = i
    · subst e; rw [g1, ht']
    · rw [g2 m e]
  refine ⟨?_, hf.mono (fun _ _ e => by subst e; exact PD.mine hb1)⟩
  exact { blk := fun _ => k.blk (by omega)
          jobs := fun _ => by show Row _ _ _ _ _ _ (p.tasks.set i t').length _; rw [hlen]; exact k.jobs (by omega)
          queue := fun _ => k.queue (by omega)
          urg := fun _ => k.urg (by omega)
          known := fun _ => k.known (by omega)
          work := fun _ => k.work (by omega)
          tb := fun m hm _ => by
            simp only [hlen] at hm
            by_cases e : m = i
            · subst e
              refine ⟨(ho _ (blk_lt hb2)).trans hb1, ?_⟩
              simp only [g1, s1]
              rw [blk_set hb3, ht']
              rfl
            · simp only [g2 m e, s2 m e]
              exact k.tb m hm (by omega)
          st := fun m hm _ => by simp only [hlen] at hm; simp only [gt m]; exact k.st m hm (by omega)
          told := fun m hm _ => by
            simp only [hlen] at hm
            by_cases e : m = i
            · subst e
              simp only [g1, s1]
              rw [ht']
              exact ⟨owns_set hrow.1 (owns_ne hrow.1 hb3 (by decide)) _ _, hrow.2⟩
            · simp only [g2 m e, s2 m e]
              exact k.told m hm (by omega)
          rtold := fun m hm _ => k.rtold m hm (by omega)
          tsl := by simp only [hlen]; exact k.tsl
          sl := by simp only [hlen]; exact k.sl
          tl := by simp only [hlen, List.length_set]; exact k.tl
          rl := k.rl
          wl := k.wl
          kl := k.kl }
end
theorem wkC_len (ts : List Nat) {a : WkM} (h : a.ok) (t : Value) : (wkC ts a t).length = 74 := by simp [wkC, engCells_len h.1 h.2]
theorem wkCells_split (ts : List Nat) {l : List WkM} {t : List Value} (hl : t.length = l.length) {i : Nat} (hi : i < l.length) :
    wkCells ts l t = wkCells ts (l.take i) (t.take i) ++ wkC ts (l.getD i wk0) (t.getD i nilV) ++ wkCells ts (l.drop (i + 1)) (t.drop (i + 1)) := by
  have hit : i < t.length := by omega
  have e : List.zipWith (wkC ts) l t = (List.zipWith (wkC ts) l t).take i ++ (wkC ts (l.getD i wk0) (t.getD i nilV) :: (List.zipWith (wkC ts) l t).drop (i + 1)) := by
    have hz : i < (List.zipWith (wkC ts) l t).length := by simp; omega
    have hg : (List.zipWith (wkC ts) l t)[i] = wkC ts (l.getD i wk0) (t.getD i nilV) := by simp [List.getD, hi, hit]
    rw [← hg, ← List.drop_eq_getElem_cons hz, List.take_append_drop]
  rw [List.take_zipWith, List.drop_zipWith] at e
  unfold wkCells
  rw [e, List.flatten_append, List.flatten_cons, List.append_assoc]
theorem wkCells_set (ts : List Nat) {l : List WkM} {t : List Value} (hl : t.length = l.length) {i : Nat} (hi : i < l.length) (a : WkM) (x : Value) :
    wkCells ts (l.set i a) (t.set i x) = wkCells ts (l.take i) (t.take i) ++ wkC ts a x ++ wkCells ts (l.drop (i + 1)) (t.drop (i + 1)) := by
  have hit : i < t.length := by omega
  rw [wkCells_split ts (l := l.set i a) (t := t.set i x) (by simp [hl]) (i := i) (by simpa using hi)]
  have e1 : (l.set i a).getD i wk0 = a := by simp [List.getD, hi]
  have e2 : (t.set i x).getD i nilV = x := by simp [List.getD, hit]
  rw [e1, e2, List.take_set_of_le (Nat.le_refl _), List.take_set_of_le (Nat.le_refl _), List.drop_set_of_lt (by omega), List.drop_set_of_lt (by omega)]
theorem wkCells_len (ts : List Nat) : ∀ (l : List WkM) (t : List Value) (_ : t.length = l.length) (_ : ∀ a ∈ l, a.ok), (wkCells ts l t).length = l.length * 74
  | [], t, _, _ => by simp [wkCells]
  | a :: l, [], h, _ => by simp at h
  | a :: l, x :: t, h, hk => by
    have ih := wkCells_len ts l t (by simpa using h) (fun b hb => hk b (by simp [hb]))
    unfold wkCells at ih ⊢
    rw [List.zipWith_cons_cons, List.flatten_cons, List.length_append, wkC_len ts (hk a (by simp)), ih, List.length_cons, Nat.add_mul]
    omega
def wkSpot (p : PM) (v : PV) (i : Nat) : Spot := ⟨v.wb, i * 74 + 2, wkCells v.ts (p.workers.take i) (v.rt.take i) ++ [tkO v.ts (p.wk i).ticket, natV (p.wk i).beg], wkCells v.ts (p.workers.drop (i + 1)) (v.rt.drop (i + 1)), 140⟩
section
variable {o o' : Nat → Option Nat} {w w1 : World} {b : Nat} {p : PM} {v : PV}
theorem PD.wkOk (h : PD o w b p v) {i : Nat} (hi : i < p.workers.length) : (p.wk i).ok := h.wl _ (by simp [PM.wk, List.getD, hi])
theorem PD.preLen (h : PD o w b p v) {i : Nat} (hi : i < p.workers.length) : (wkCells v.ts (p.workers.take i) (v.rt.take i)).length = i * 74 := by
  have hrl := h.rl
  rw [wkCells_len _ _ _ (by simp [hrl]) (fun a ha => h.wl a (List.mem_of_mem_take ha)), List.length_take, Nat.min_eq_left (by omega)]
theorem PD.wblk (h : PD o w b p v) {i : Nat} (hi : i < p.workers.length) : w.heap[v.wb]? = some (.cells (wkCells v.ts (p.workers.take i) (v.rt.take i) ++ wkC v.ts (p.wk i) (v.rt.getD i nilV) ++ wkCells v.ts (p.workers.drop (i + 1)) (v.rt.drop (i + 1))).toArray 140 (0, 0)) := by
  have := (h.work nX).2
  rw [wkCells_split v.ts h.rl hi] at this
  exact this
theorem PD.wrange (h : PD o w b p v) {i : Nat} (hi : i < p.workers.length) : w.rangeAt v.wb (i * 74) (wkC v.ts (p.wk i) (v.rt.getD i nilV)) := blk_rangeAt (h.wblk hi) (h.preLen hi)
theorem PD.cWkT (h : PD o w b p v) {i : Nat} (hi : i < p.workers.length) : w.cell? ⟨v.wb, i * 74, none⟩ = some (tkO v.ts (p.wk i).ticket) := h.wrange hi 0 _ rfl
theorem PD.cWkB (h : PD o w b p v) {i : Nat} (hi : i < p.workers.length) : w.cell? ⟨v.wb, i * 74 + 1, none⟩ = some (.int .i64 ((p.wk i).beg : Int)) := h.wrange hi 1 _ rfl
theorem PD.eng (h : PD o w b p v) {i : Nat} (hi : i < p.workers.length) {S : Nat → Prop} (hS : S v.wb) (hT : ∀ k, o k = some (9 + 4 * i) → S k) : Eng S w (wkSpot p v i) (v.rt.getD i nilV) (p.wk i).st (p.wk i).x (see (p.wk i).m (p.wk i).x.puts) where
  inS := hS
  tS := fun k hk => hT k ((h.rtold i hi nX).2 k hk)
  off := by simp [wkSpot, h.preLen hi]
  tyne := by show (3 : TypeId) ≠ 140; decide
  blk := by
    have := h.wblk hi
    rw [show (wkSpot p v i).b = v.wb from rfl, this]
    simp [wkSpot, wkC]
  rlen := (h.wkOk hi).1
  dlen := (h.wkOk hi).2
  told := (h.rtold i hi nX).1
theorem PD.setWk (h : PD o w b p v) (ho : Own w o o') {i : Nat} (hi : i < p.workers.length) (hf : Fr (fun k => k = v.wb ∨ o k = some (9 + 4 * i)) w w1) {a : WkM} {x : Value} (hok : a.ok)
    (hblk : w1.heap[v.wb]? = some (.cells (wkCells v.ts (p.workers.take i) (v.rt.take i) ++ wkC v.ts a x ++ wkCells v.ts (p.workers.drop (i + 1)) (v.rt.drop (i + 1))).toArray 140 (0, 0)))
    (hrow : Row o' (9 + 4 * i) w1 3 1 x a.x.told.length (a.x.told.map (Value.int .i64))) :
    PD o' w1 b { p with workers := p.workers.set i a } { v with rt := v.rt.set i x } ∧ Fr (Mine o) w w1 := by
  obtain ⟨hb1, hb2⟩ := h.work nX
  have hrl := h.rl
  have k := (PDr.less (Y := fun q => q = 5 ∨ q = 9 + 4 * i) h (fun _ hx => absurd hx nX)).keep hf (fun k q hk e => by
    rcases e with e | e
    · subst e; rw [hb1] at hk; injection hk with hk; exact Or.inl hk.symm
    · rw [e] at hk; injection hk with hk; exact Or.inr hk.symm) ho
  have hlen : (p.workers.set i a).length = p.workers.length := List.length_set ..
  have g1 : (p.workers.set i a).getD i wk0 = a := by simp [List.getD, hi]
  have g2 : ∀ m, m ≠ i → (p.workers.set i a).getD m wk0 = p.workers.getD m wk0 := fun m hm => by simp [List.getD, List.getElem?_set_ne (Ne.symm hm)]
  have s1 : (v.rt.set i x).getD i nilV = x := by simp [List.getD, hrl, hi]
  have s2 : ∀ m, m ≠ i → (v.rt.set i x).getD m nilV = v.rt.getD m nilV := fun m hm => by simp [List.getD, List.getElem?_set_ne (Ne.symm hm)]
  refine ⟨?_, hf.mono (fun k _ e => by
    rcases e with e | e
    · subst e; exact PD.mine hb1
    · exact PD.mine e)⟩
  exact { blk := fun _ => by
            have := k.blk (by omega)
            have e : deskC { p with workers := p.workers.set i a } { v with rt := v.rt.set i x } = deskC p v := by simp only [deskC, tailC, List.length_set]
            rw [e]; exact this
          jobs := fun _ => k.jobs (by omega)
          queue := fun _ => k.queue (by omega)
          urg := fun _ => k.urg (by omega)
          known := fun _ => k.known (by omega)
          work := fun _ => ⟨(ho _ (blk_lt hb2)).trans hb1, by simp only; rw [wkCells_set v.ts hrl hi]; exact hblk⟩
          tb := fun m hm _ => k.tb m hm (by omega)
          st := fun m hm _ => k.st m hm (by omega)
          told := fun m hm _ => k.told m hm (by omega)
          rtold := fun m hm _ => by
            simp only [hlen] at hm
            by_cases e : m = i
            · subst e
              simp only [g1, s1]
              exact hrow
            · simp only [g2 m e, s2 m e]
              exact k.rtold m hm (by omega)
          tsl := k.tsl
          sl := k.sl
          tl := k.tl
          rl := by simp [hrl]
          wl := fun c hc => by
            rcases List.mem_or_eq_of_mem_set hc with hc | rfl
            · exact k.wl c hc
            · exact hok
          kl := k.kl }
theorem PD.putEng (h : PD o w b p v) {i : Nat} (hi : i < p.workers.length) {tv : Value} {st : Int} {x : Mo} {f : Int → Int} (hE : Eng (fun k => k = v.wb ∨ o k = some (9 + 4 * i) ∨ w.heap.size ≤ k) w1 (wkSpot p v i) tv st x f) (hfe : f = see (p.wk i).m x.puts) (hF : Fr (fun k => k = v.wb ∨ o k = some (9 + 4 * i) ∨ w.heap.size ≤ k) w w1) :
    PD (grow w o (9 + 4 * i)) w1 b { p with workers := p.workers.set i { p.wk i with st := st, x := x } } { v with rt := v.rt.set i tv } ∧ Fr (Mine o) w w1 := by
  subst hfe
  refine h.setWk (own_grow _ _ _) hi (hF.mono (fun k hk e => by
    rcases e with e | e | e
    · exact Or.inl e
    · exact Or.inr e
    · omega)) ⟨hE.rlen, hE.dlen⟩ ?_ ⟨hE.told, fun k hk => ?_⟩
  · have := hE.blk
    rw [show (wkSpot p v i).b = v.wb from rfl] at this
    rw [this]
    simp [wkSpot, wkC]
  · rcases hE.tS k hk with e | e | e
    · exact absurd hk (e ▸ hE.ne_t)
    · rw [grow]
      by_cases hl : k < w.heap.size
      · rw [if_pos hl]; exact e
      · rw [if_neg hl]
    · exact grow_new e
def mapSpot (b : Nat) (p : PM) (v : PV) : Spot := ⟨b, 4, confC p.c, tailC p v, 77⟩
theorem PD.mapIn (h : PD o w b p v) : MapIn w (mapSpot b p v) p.vals := ⟨rfl, h.dblk⟩
theorem PD.putMap (h : PD o w b p v) {g : Int → Int} (hM : MapIn w1 (mapSpot b p v) g) (hF : Fr (fun k => k = b) w w1) : PD o w1 b { p with vals := g } v ∧ Fr (Mine o) w w1 := by
  have hb := h.blk nX
  have k := (PDr.less (Y := fun q => q = 0) h (fun _ hx => absurd hx nX)).keep hF (fun k q hk e => by subst e; rw [hb.1] at hk; injection hk with hk; exact hk.symm) (Own.refl w o)
  refine ⟨?_, hF.mono (fun k _ e => by subst e; exact PD.mine hb.1)⟩
  exact { blk := fun _ => ⟨hb.1, hM.blk⟩
          jobs := fun _ => k.jobs (by omega)
          queue := fun _ => k.queue (by omega)
          urg := fun _ => k.urg (by omega)
          known := fun _ => k.known (by omega)
          work := fun _ => k.work (by omega)
          tb := fun i hi _ => k.tb i hi (by omega)
          st := fun i hi _ => k.st i hi (by omega)
          told := fun i hi _ => k.told i hi (by omega)
          rtold := fun i hi _ => k.rtold i hi (by omega)
          tsl := k.tsl
          sl := k.sl
          tl := k.tl
          rl := k.rl
          wl := k.wl
          kl := k.kl }
end
end Go.Proofs.YtlbmcdoldnajoaaGreat
