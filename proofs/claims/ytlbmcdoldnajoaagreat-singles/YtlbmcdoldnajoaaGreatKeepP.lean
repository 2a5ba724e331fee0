import Derived.Test.YtlbmcdoldnajoaaGreatAppendKeep
import Derived.Test.YtlbmcdoldnajoaaGreatDoesLaw
namespace Go.Proofs.YtlbmcdoldnajoaaGreat
open Go.RowKit
def markN (i : Nat) : Int := -1000 - ((i / 4 : Nat) : Int)
structure LW (B : Nat) (W : World) (pb : Nat) (dv : Value) (one : Bool) (iv pv : Value) (vs ps : List Value) : Prop where
  bpb : B ≤ pb
  blk : W.heap[pb]? = some (.cells #[dv, .bool one, iv, pv] 30 (0, 0))
  ints : W.ownsRow B 55 1 iv vs.length vs
  prs : W.ownsRow B 36 1 pv ps.length ps
  ki : ∀ i v, vs[i]? = some v → ∃ n, n ≤ 1000 ∧ W.ownsRow B 3 1 v n (List.replicate n (.int .i64 (markN i)))
  kp : ∀ i v, ps[i]? = some v → ∃ n, n ≤ 1000 ∧ W.ownsRow B 58 2 v n (prCells (List.replicate n (markN i, -1)))
  i4 : vs.length % 4 = 0
  p4 : ps.length % 4 = 0
theorem Tryz.infoInts : (Tryz.prog.info? 55).map (fun i => (i.zero, i.size, i.bytes)) = some (some (.slice none 0 0), 1, 24) := by kernel_rfl
theorem Tryz.infoPairs : (Tryz.prog.info? 36).map (fun i => (i.zero, i.size, i.bytes)) = some (some (.slice none 0 0), 1, 24) := by kernel_rfl
theorem rep_set (m : Value) (xs : List Value) (j : Nat) (h : j < xs.length) : (List.replicate j m ++ xs.drop j).set j m = List.replicate (j + 1) m ++ xs.drop (j + 1) := by
  apply List.ext_getElem?
  intro i
  simp only [List.getElem?_set, List.getElem?_append, List.getElem?_replicate, List.length_replicate, List.length_append, List.length_drop, List.getElem?_drop]
  by_cases h1 : j = i
  · subst h1
    have h2 : j < j + (xs.length - j) := by omega
    simp [h2]
  · by_cases h2 : i < j
    · simp [h1, h2, show i < j + 1 by omega]
    · have h3 : ¬ i < j + 1 := by omega
      simp [h1, h2, h3, show j + (i - j) = j + 1 + (i - (j + 1)) by omega]
def Filled (B : Nat) (W : World) (e s : TypeId) (lv : Value) (n : Nat) (ys : List Value) (W1 : World) : Prop := W1.ownsRow B e s lv n ys ∧ Fr (fun k => lv.ownBlock = some k) W W1
theorem owns_form' {w : World} {base : Nat} {e : TypeId} {size : Nat} {v : Value} {n : Nat} {xs : List Value} (h : w.ownsRow base e size v n xs) : ∃ ao cap, v = .slice ao n cap := by
  rcases h.2 with ⟨rfl, rfl⟩ | ⟨g, cap, cur, rfl, _⟩
  · exact ⟨none, 0, rfl⟩
  · exact ⟨_, cap, rfl⟩
def FreshTo (vs : List Value) (lv : Value) : Prop := ∀ (i : Nat) (v : Value) (k : Nat), vs[i]? = some v → v.ownBlock = some k → lv.ownBlock ≠ some k
def NewOr (W : World) (rv' rv lv o1 o2 o3 : Value) : Prop := ∀ k, k < W.heap.size → (rv'.ownBlock = some k → rv.ownBlock = some k) ∧ ((o1.ownBlock = some k ∨ o2.ownBlock = some k ∨ o3.ownBlock = some k) → lv.ownBlock = some k)
def KeptI (B : Nat) (W : World) (pb : Nat) (dv : Value) (one : Bool) (iv pv : Value) (vs ps : List Value) (lv : Value) (e : Ending) (W' : World) : Prop :=
  e = .returned (.tuple #[]) ∧ ∃ iv' o1 o2 o3, LW B W' pb dv one iv' pv (vs ++ [lv, o1, o2, o3]) ps ∧ Fr (fun k => k = pb ∨ iv.ownBlock = some k ∨ lv.ownBlock = some k) W W' ∧ NewOr W iv' iv lv o1 o2 o3
theorem own_apart {w : World} {b e s b' e' s' : Nat} {u v : Value} {k n : Nat} {ys xs : List Value} (h : w.ownsRow b e s u k ys) (h' : w.ownsRow b' e' s' v n xs) (he : e ≠ e') (hb : u.ownBlock = v.ownBlock) : k = 0 := by
  rcases h.2 with ⟨_, h0⟩ | ⟨g, cap, cur, rfl, _, hh, _⟩
  · exact h0
  · rcases h'.2 with ⟨rfl, _⟩ | ⟨g', cap', cur', rfl, _, hh', _⟩
    · cases hb
    · injection hb with hb
      have hb : g = g' := hb
      subst hb
      exact absurd rfl (blk_ne hh hh' he)
theorem rep_snoc (m : Value) (n : Nat) : List.replicate n m ++ [m] = List.replicate (n + 1) m := by rw [List.replicate_succ']
theorem wpList_one {w : World} {ops : Array Oper} {rest : List Oper} {o : Oper} {a : Act} {Q : Exit → Act → World → Prop} (s x : Operand) {B : Nat} {v : Value} {n : Nat} {m : Int}
    (hgd : o.guard = none) (ho : o.op = .call { callee := .builtin .append, args := #[s, x], argTypes := #[55, 55] }) (hs : a.eval s = v) (hx : a.eval x = .slice (some ⟨w.heap.size, 0, none⟩) 1 1)
    (hown : w.ownsRow B 3 1 v n (List.replicate n (.int .i64 m))) (hn : n ≤ 400) (hB : B ≤ w.heap.size)
    (h : ∀ g cap w', w'.ownsRow B 3 1 (.slice (some ⟨g, 0, none⟩) (n + 1) cap) (n + 1) (List.replicate (n + 1) (.int .i64 m)) → KeepsRows w w' v n → Fr (fun k => v.ownBlock = some k) w w' → (v.ownBlock = some g ∨ w.heap.size ≤ g) →
      wpList Tryz.prog ops Q rest (a.put o.dst (.slice (some ⟨g, 0, none⟩) (n + 1) cap)) w') :
    wpList Tryz.prog ops Q (o :: rest) a (w.alloc (.cells #[.int .i64 m] 3)) := by
  obtain ⟨i0, hi, hz0, hz1, hz2⟩ := info_parts Tryz.infoInt
  refine wpList_append_keep hgd s x 55 ho B 3 i0 _ 1 8 Tryz.underlying55 hi hz0 hz1 hz2 rfl (by decide) v n _ hs (hown.alloc _) ⟨w.heap.size, 0, none⟩ 1 1 [.int .i64 m] hx rfl
    (World.news_of_block (heap_alloc_new w _)) (fun u hu => by simp at hu; subst hu; rfl) (by decide) (by unfold maxLen; omega) (by omega) (by simp; omega) ?_
  intro g cap w' h1 h2 h3 h4 h5
  refine h g cap w' (by rw [← rep_snoc]; exact h1) (fun b e s u k ys hu hk => h2 b e s u k ys (hu.alloc _) (fun e => by rw [Nat.mul_one]; exact hk e)) (((Fr.refl _ w).alloc _).grown h3 (fun k hk _ => hk)) ?_
  rcases h4 with h4 | h4
  · exact Or.inl h4
  · right; simp at h4; omega
theorem keepInts_end {B : Nat} {W W5 W6 : World} {pb : Nat} {dv : Value} {one : Bool} {iv pv : Value} {vs ps : List Value} {lv o1 o2 o3 : Value} {n g cap : Nat} (h : LW B W pb dv one iv pv vs ps) (hn : n ≤ 900)
    (hF5 : Fr (fun k => lv.ownBlock = some k) W W5) (hfresh : FreshTo vs lv) (hlv : ∀ k, lv.ownBlock = some k → ∃ cur, W.heap[k]? = some (.cells cur 3 (0, 0)))
    (hl : W5.ownsRow B 3 1 lv n (List.replicate n (.int .i64 (markN vs.length)))) (h1 : W5.ownsRow B 3 1 o1 (n + 1) (List.replicate (n + 1) (.int .i64 (markN vs.length))))
    (h2 : W5.ownsRow B 3 1 o2 (n + 2) (List.replicate (n + 2) (.int .i64 (markN vs.length)))) (h3 : W5.ownsRow B 3 1 o3 (n + 3) (List.replicate (n + 3) (.int .i64 (markN vs.length))))
    (hK : KeepsRows W5 W6 iv vs.length) (hF6 : Fr (fun k => iv.ownBlock = some k) W5 W6)
    (hrow : W6.ownsRow B 55 1 (.slice (some ⟨g, 0, none⟩) (vs.length + 4) cap) (vs.length + 4) (vs ++ [lv, o1, o2, o3])) (hnew : NewOr W (.slice (some ⟨g, 0, none⟩) (vs.length + 4) cap) iv lv o1 o2 o3) :
    KeptI B W pb dv one iv pv vs ps lv (.returned (.tuple #[])) (W6.setCell ⟨pb, 2, none⟩ (.slice (some ⟨g, 0, none⟩) (vs.length + 4) cap)) := by
  have nlp : ¬ lv.ownBlock = some pb := fun e => by obtain ⟨cur, hc⟩ := hlv pb e; exact blk_ne hc h.blk (by decide) rfl
  have nip : ¬ iv.ownBlock = some pb := owns_ne h.ints h.blk (by decide)
  have hb5 := hF5.blk h.blk nlp
  have hb6 := hF6.blk hb5 nip
  have hiv5 : W5.ownsRow B 55 1 iv vs.length vs := owns_fr h.ints hF5 (fun k hk hl => by
    obtain ⟨cur, hc⟩ := hlv k hl
    exact owns_ne h.ints hc (by decide) hk)
  have old : ∀ {e s : Nat} {u : Value} {k : Nat} {ys : List Value}, W5.ownsRow B e s u k ys → e ≠ 55 → e ≠ 30 → (W6.setCell ⟨pb, 2, none⟩ (.slice (some ⟨g, 0, none⟩) (vs.length + 4) cap)).ownsRow B e s u k ys := fun {e s u k ys} hu he he' =>
    have hu6 := hK B e s u k ys hu (fun eb => by have := own_apart hu hiv5 he eb; subst this; simp)
    owns_set hu6 (owns_ne hu6 hb6 he') _ _
  refine ⟨rfl, _, o1, o2, o3, { bpb := h.bpb, blk := by rw [blk_set hb6]; rfl, ints := ?_, prs := ?_, ki := ?_, kp := ?_, i4 := by have := h.i4; simp; omega, p4 := h.p4 }, ?_, hnew⟩
  · have := owns_set hrow (owns_ne hrow hb6 (by decide)) 2 (.slice (some ⟨g, 0, none⟩) (vs.length + 4) cap)
    simpa using this
  · exact old (owns_fr h.prs hF5 (fun k hk hl => by obtain ⟨cur, hc⟩ := hlv k hl; exact owns_ne h.prs hc (by decide) hk)) (by decide) (by decide)
  · intro i v hv
    by_cases hi : i < vs.length
    · rw [List.getElem?_append_left hi] at hv
      obtain ⟨k, hk, hu⟩ := h.ki i v hv
      exact ⟨k, hk, old (owns_fr hu hF5 (fun q hq hl => hfresh i v q hv hq hl)) (by decide) (by decide)⟩
    · rw [List.getElem?_append_right (by omega)] at hv
      have e : markN i = markN vs.length := by
        have h4 : i - vs.length < 4 := (List.getElem?_eq_some_iff.1 hv).1
        have := h.i4
        unfold markN
        have : i / 4 = vs.length / 4 := by omega
        rw [this]
      rw [e]
      have h4 : i - vs.length < 4 := (List.getElem?_eq_some_iff.1 hv).1
      rcases (show i - vs.length = 0 ∨ i - vs.length = 1 ∨ i - vs.length = 2 ∨ i - vs.length = 3 by omega) with q | q | q | q <;> rw [q] at hv <;> simp at hv <;> subst hv
      · exact ⟨n, by omega, old hl (by decide) (by decide)⟩
      · exact ⟨n + 1, by omega, old h1 (by decide) (by decide)⟩
      · exact ⟨n + 2, by omega, old h2 (by decide) (by decide)⟩
      · exact ⟨n + 3, by omega, old h3 (by decide) (by decide)⟩
  · intro i v hv
    obtain ⟨k, hk, hu⟩ := h.kp i v hv
    exact ⟨k, hk, old (owns_fr hu hF5 (fun q hq hl => by obtain ⟨cur, hc⟩ := hlv q hl; exact owns_ne hu hc (by decide) hq)) (by decide) (by decide)⟩
  · have hall : Fr (fun k => k = pb ∨ iv.ownBlock = some k ∨ lv.ownBlock = some k) W W6 := (hF5.mono (fun k _ hk => Or.inr (Or.inr hk))).trans hF6 (fun k _ hk => Or.inr (Or.inl hk))
    exact hall.setCell (p := ⟨pb, 2, none⟩) (fun _ => Or.inl rfl) _
def KeptP (B : Nat) (W : World) (pb : Nat) (dv : Value) (one : Bool) (iv pv : Value) (vs ps : List Value) (lv : Value) (e : Ending) (W' : World) : Prop :=
  e = .returned (.tuple #[]) ∧ ∃ pv' o1 o2 o3, LW B W' pb dv one iv pv' vs (ps ++ [lv, o1, o2, o3]) ∧ Fr (fun k => k = pb ∨ pv.ownBlock = some k ∨ lv.ownBlock = some k) W W' ∧ NewOr W pv' pv lv o1 o2 o3
theorem wpList_onep {w : World} {O : Obj} {ops : Array Oper} {rest : List Oper} {o : Oper} {a : Act} {Q : Exit → Act → World → Prop} (s x : Operand) {B : Nat} {v : Value} {n : Nat} {m : Int}
    (hgd : o.guard = none) (ho : o.op = .call { callee := .builtin .append, args := #[s, x], argTypes := #[36, 36] }) (hs : a.eval s = v) (hx : a.eval x = .slice (some ⟨w.heap.size + 1, 0, none⟩) 1 1)
    (hown : w.ownsRow B 58 2 v n (prCells (List.replicate n (m, -1)))) (hn : n ≤ 400) (hB : B ≤ w.heap.size)
    (h : ∀ g cap w', w'.ownsRow B 58 2 (.slice (some ⟨g, 0, none⟩) (n + 1) cap) (n + 1) (prCells (List.replicate (n + 1) (m, -1))) → KeepsRows w w' v (n * 2) → Fr (fun k => v.ownBlock = some k) w w' → (v.ownBlock = some g ∨ w.heap.size ≤ g) →
      wpList Tryz.prog ops Q rest (a.put o.dst (.slice (some ⟨g, 0, none⟩) (n + 1) cap)) w') :
    wpList Tryz.prog ops Q (o :: rest) a ((w.alloc O).alloc (.cells #[.int .i64 m, .int .i64 (-1)] 58)) := by
  obtain ⟨i0, hi, hz0, hz1, hz2⟩ := info_parts Tryz.infoPair
  have hnew : ((w.alloc O).alloc (.cells #[.int .i64 m, .int .i64 (-1)] 58)).heap[w.heap.size + 1]? = some (.cells #[.int .i64 m, .int .i64 (-1)] 58 (0, 0)) := by
    have := heap_alloc_new (w.alloc O) (.cells #[.int .i64 m, .int .i64 (-1)] 58)
    rwa [World.size_alloc] at this
  refine wpList_append_keep hgd s x 36 ho B 58 i0 _ 2 16 Tryz.underlying36 hi hz0 hz1 hz2 rfl (by decide) v n _ hs ((hown.alloc _).alloc _) ⟨w.heap.size + 1, 0, none⟩ 1 1 [.int .i64 m, .int .i64 (-1)] hx rfl
    (World.news_of_block hnew) (fun u hu => by simp at hu; rcases hu with rfl | rfl <;> rfl) (by decide) (by unfold maxLen; omega) (by omega) (by simp; omega) ?_
  intro g cap w' h1 h2 h3 h4 h5
  refine h g cap w' ?_ (fun b e s u k ys hu hk => h2 b e s u k ys ((hu.alloc _).alloc _) (fun e => hk e)) ((((Fr.refl _ w).alloc _).alloc _).grown h3 (fun k hk _ => hk)) ?_
  · rw [List.replicate_succ', prCells_append]; exact h1
  · rcases h4 with h4 | h4
    · exact Or.inl h4
    · right; simp at h4; omega
theorem rep_setp (m : Int) (xs : List Value) (j : Nat) (h : j * 2 + 1 < xs.length) : ((prCells (List.replicate j (m, -1)) ++ xs.drop (j * 2)).set (j * 2) (.int .i64 m)).set (j * 2 + 1) (.int .i64 (-1)) = prCells (List.replicate (j + 1) (m, -1)) ++ xs.drop ((j + 1) * 2) := by
  have hl : (prCells (List.replicate j (m, -1))).length = j * 2 := by rw [length_prCells, List.length_replicate]
  have e1 : xs.drop (j * 2) = xs[j * 2] :: xs[j * 2 + 1] :: xs.drop ((j + 1) * 2) := by
    rw [List.drop_eq_getElem_cons (by omega), List.drop_eq_getElem_cons (by omega)]
    congr 2
    congr 1
    omega
  rw [e1, List.replicate_succ', prCells_append, List.append_assoc]
  rw [List.set_append_right _ _ (by omega), hl, Nat.sub_self, List.set_append_right _ _ (by omega), hl]
  simp [prCells]
theorem keepPairs_end {B : Nat} {W W5 W6 : World} {pb : Nat} {dv : Value} {one : Bool} {iv pv : Value} {vs ps : List Value} {lv o1 o2 o3 : Value} {n g cap : Nat} (h : LW B W pb dv one iv pv vs ps) (hn : n ≤ 900)
    (hF5 : Fr (fun k => lv.ownBlock = some k) W W5) (hfresh : FreshTo ps lv) (hlv : ∀ k, lv.ownBlock = some k → ∃ cur, W.heap[k]? = some (.cells cur 58 (0, 0)))
    (hl : W5.ownsRow B 58 2 lv n (prCells (List.replicate n (markN ps.length, -1)))) (h1 : W5.ownsRow B 58 2 o1 (n + 1) (prCells (List.replicate (n + 1) (markN ps.length, -1))))
    (h2 : W5.ownsRow B 58 2 o2 (n + 2) (prCells (List.replicate (n + 2) (markN ps.length, -1)))) (h3 : W5.ownsRow B 58 2 o3 (n + 3) (prCells (List.replicate (n + 3) (markN ps.length, -1))))
    (hK : KeepsRows W5 W6 pv ps.length) (hF6 : Fr (fun k => pv.ownBlock = some k) W5 W6)
    (hrow : W6.ownsRow B 36 1 (.slice (some ⟨g, 0, none⟩) (ps.length + 4) cap) (ps.length + 4) (ps ++ [lv, o1, o2, o3])) (hnew : NewOr W (.slice (some ⟨g, 0, none⟩) (ps.length + 4) cap) pv lv o1 o2 o3) :
    KeptP B W pb dv one iv pv vs ps lv (.returned (.tuple #[])) (W6.setCell ⟨pb, 3, none⟩ (.slice (some ⟨g, 0, none⟩) (ps.length + 4) cap)) := by
  have nlp : ¬ lv.ownBlock = some pb := fun e => by obtain ⟨cur, hc⟩ := hlv pb e; exact blk_ne hc h.blk (by decide) rfl
  have nip : ¬ pv.ownBlock = some pb := owns_ne h.prs h.blk (by decide)
  have hb5 := hF5.blk h.blk nlp
  have hb6 := hF6.blk hb5 nip
  have hiv5 : W5.ownsRow B 36 1 pv ps.length ps := owns_fr h.prs hF5 (fun k hk hl => by
    obtain ⟨cur, hc⟩ := hlv k hl
    exact owns_ne h.prs hc (by decide) hk)
  have old : ∀ {e s : Nat} {u : Value} {k : Nat} {ys : List Value}, W5.ownsRow B e s u k ys → e ≠ 36 → e ≠ 30 → (W6.setCell ⟨pb, 3, none⟩ (.slice (some ⟨g, 0, none⟩) (ps.length + 4) cap)).ownsRow B e s u k ys := fun {e s u k ys} hu he he' =>
    have hu6 := hK B e s u k ys hu (fun eb => by have := own_apart hu hiv5 he eb; subst this; simp)
    owns_set hu6 (owns_ne hu6 hb6 he') _ _
  refine ⟨rfl, _, o1, o2, o3, { bpb := h.bpb, blk := by rw [blk_set hb6]; rfl, ints := ?_, prs := ?_, ki := ?_, kp := ?_, i4 := h.i4, p4 := by have := h.p4; simp; omega }, ?_, hnew⟩
  · exact old (owns_fr h.ints hF5 (fun k hk hl => by obtain ⟨cur, hc⟩ := hlv k hl; exact owns_ne h.ints hc (by decide) hk)) (by decide) (by decide)
  · have := owns_set hrow (owns_ne hrow hb6 (by decide)) 3 (.slice (some ⟨g, 0, none⟩) (ps.length + 4) cap)
    simpa using this
  · intro i v hv
    obtain ⟨k, hk, hu⟩ := h.ki i v hv
    exact ⟨k, hk, old (owns_fr hu hF5 (fun q hq hl => by obtain ⟨cur, hc⟩ := hlv q hl; exact owns_ne hu hc (by decide) hq)) (by decide) (by decide)⟩
  · intro i v hv
    by_cases hi : i < ps.length
    · rw [List.getElem?_append_left hi] at hv
      obtain ⟨k, hk, hu⟩ := h.kp i v hv
      exact ⟨k, hk, old (owns_fr hu hF5 (fun q hq hl => hfresh i v q hv hq hl)) (by decide) (by decide)⟩
    · rw [List.getElem?_append_right (by omega)] at hv
      have e : markN i = markN ps.length := by
        have h4 : i - ps.length < 4 := (List.getElem?_eq_some_iff.1 hv).1
        have := h.p4
        unfold markN
        have : i / 4 = ps.length / 4 := by omega
        rw [this]
      rw [e]
      have h4 : i - ps.length < 4 := (List.getElem?_eq_some_iff.1 hv).1
      rcases (show i - ps.length = 0 ∨ i - ps.length = 1 ∨ i - ps.length = 2 ∨ i - ps.length = 3 by omega) with q | q | q | q <;> rw [q] at hv <;> simp at hv <;> subst hv
      · exact ⟨n, by omega, old hl (by decide) (by decide)⟩
      · exact ⟨n + 1, by omega, old h1 (by decide) (by decide)⟩
      · exact ⟨n + 2, by omega, old h2 (by decide) (by decide)⟩
      · exact ⟨n + 3, by omega, old h3 (by decide) (by decide)⟩
  · have hall : Fr (fun k => k = pb ∨ pv.ownBlock = some k ∨ lv.ownBlock = some k) W W6 := (hF5.mono (fun k _ hk => Or.inr (Or.inr hk))).trans hF6 (fun k _ hk => Or.inr (Or.inl hk))
    exact hall.setCell (p := ⟨pb, 3, none⟩) (fun _ => Or.inl rfl) _
end Go.Proofs.YtlbmcdoldnajoaaGreat
