/- 'keepPairs': plain facts. -/
import Derived.Test.YtlbmcdoldnajoaaKeep
namespace Go.Proofs.Ytlbmcdoldnajoaa
open Go.RowKit

/-- what 'keepPairs' leaves -/
def KeptP (B : Nat) (W : World) (pb : Nat) (dv : Value) (one : Bool) (iv pv : Value) (vs ps : List Value) (lv : Value) (e : Ending) (W' : World) : Prop :=
  e = .returned (.tuple #[]) ∧ ∃ pv' o1 o2 o3, LW B W' pb dv one iv pv' vs (ps ++ [lv, o1, o2, o3]) ∧ Fr (fun k => k = pb ∨ pv.ownBlock = some k ∨ lv.ownBlock = some k) W W' ∧ NewOr W pv' pv lv o1 o2 o3

/-- one pair more behind a list that is owned -/
theorem wpList_onep {w : World} {O : Obj} {ops : Array Oper} {rest : List Oper} {o : Oper} {a : Act} {Q : Exit → Act → World → Prop} (s x : Operand) {B : Nat} {v : Value} {n : Nat} {m : Int}
    (hgd : o.guard = none) (ho : o.op = .call { callee := .builtin .append, args := #[s, x], argTypes := #[24, 24] }) (hs : a.eval s = v) (hx : a.eval x = .slice (some ⟨w.heap.size + 1, 0, none⟩) 1 1)
    (hown : w.ownsRow B 42 2 v n (prCells (List.replicate n (m, -1)))) (hn : n ≤ 400) (hB : B ≤ w.heap.size)
    (h : ∀ g cap w', w'.ownsRow B 42 2 (.slice (some ⟨g, 0, none⟩) (n + 1) cap) (n + 1) (prCells (List.replicate (n + 1) (m, -1))) → KeepsRows w w' v (n * 2) → Fr (fun k => v.ownBlock = some k) w w' → (v.ownBlock = some g ∨ w.heap.size ≤ g) →
      wpList Try.prog ops Q rest (a.put o.dst (.slice (some ⟨g, 0, none⟩) (n + 1) cap)) w') :
    wpList Try.prog ops Q (o :: rest) a ((w.alloc O).alloc (.cells #[.int .i64 m, .int .i64 (-1)] 42)) := by
  obtain ⟨i0, hi, hz0, hz1, hz2⟩ := info_parts Try.infoPair
  have hnew : ((w.alloc O).alloc (.cells #[.int .i64 m, .int .i64 (-1)] 42)).heap[w.heap.size + 1]? = some (.cells #[.int .i64 m, .int .i64 (-1)] 42 (0, 0)) := by
    have := heap_alloc_new (w.alloc O) (.cells #[.int .i64 m, .int .i64 (-1)] 42)
    rwa [World.size_alloc] at this
  refine wpList_append_keep hgd s x 24 ho B 42 i0 _ 2 16 Try.underlying24 hi hz0 hz1 hz2 rfl (by decide) v n _ hs ((hown.alloc _).alloc _) ⟨w.heap.size + 1, 0, none⟩ 1 1 [.int .i64 m, .int .i64 (-1)] hx rfl
    (World.news_of_block hnew) (fun u hu => by simp at hu; rcases hu with rfl | rfl <;> rfl) (by decide) (by unfold maxLen; omega) (by omega) (by simp; omega) ?_
  intro g cap w' h1 h2 h3 h4 h5
  refine h g cap w' ?_ (fun b e s u k ys hu hk => h2 b e s u k ys ((hu.alloc _).alloc _) (fun e => hk e)) ((((Fr.refl _ w).alloc _).alloc _).grown h3 (fun k hk _ => hk)) ?_
  · rw [List.replicate_succ', prCells_append]; exact h1
  · rcases h4 with h4 | h4
    · exact Or.inl h4
    · right; simp at h4; omega

theorem rep_setp (m : Int) (xs : List Value) (j : Nat) (h : j * 2 + 1 < xs.length) : ((prCells (List.replicate j (m, -1)) ++ xs.drop (j * 2)).set (j * 2) (.int .i64 m)).set (j * 2 + 1) (.int .i64 (-1)) = prCells (List.replicate (j + 1) (m, -1)) ++ xs.drop ((j + 1) * 2) := by
  have hl : (prCells (List.replicate j (m, -1))).length = j * 2 := by rw [length_prCells, List.length_replicate]
  have e1 : xs.drop (j * 2) = xs[j * 2] :: xs[j * 2 + 1] :: xs.drop ((j + 1) * 2) := by
    rw [List.drop_eq_getElem_cons (by omega), List.drop_eq_getElem_cons (by omega)]
    congr 2
    congr 1
    omega
  rw [e1, List.replicate_succ', prCells_append, List.append_assoc]
  rw [List.set_append_right _ _ (by omega), hl, Nat.sub_self, List.set_append_right _ _ (by omega), hl]
  simp [prCells]

/-- behind the last append, ahead of the store -/
theorem keepPairs_end {B : Nat} {W W5 W6 : World} {pb : Nat} {dv : Value} {one : Bool} {iv pv : Value} {vs ps : List Value} {lv o1 o2 o3 : Value} {n g cap : Nat} (h : LW B W pb dv one iv pv vs ps) (hn : n ≤ 900)
    (hF5 : Fr (fun k => lv.ownBlock = some k) W W5) (hfresh : FreshTo ps lv) (hlv : ∀ k, lv.ownBlock = some k → ∃ cur, W.heap[k]? = some (.cells cur 42 (0, 0)))
    (hl : W5.ownsRow B 42 2 lv n (prCells (List.replicate n (markN ps.length, -1)))) (h1 : W5.ownsRow B 42 2 o1 (n + 1) (prCells (List.replicate (n + 1) (markN ps.length, -1))))
    (h2 : W5.ownsRow B 42 2 o2 (n + 2) (prCells (List.replicate (n + 2) (markN ps.length, -1)))) (h3 : W5.ownsRow B 42 2 o3 (n + 3) (prCells (List.replicate (n + 3) (markN ps.length, -1))))
    (hK : KeepsRows W5 W6 pv ps.length) (hF6 : Fr (fun k => pv.ownBlock = some k) W5 W6)
    (hrow : W6.ownsRow B 24 1 (.slice (some ⟨g, 0, none⟩) (ps.length + 4) cap) (ps.length + 4) (ps ++ [lv, o1, o2, o3])) (hnew : NewOr W (.slice (some ⟨g, 0, none⟩) (ps.length + 4) cap) pv lv o1 o2 o3) :
    KeptP B W pb dv one iv pv vs ps lv (.returned (.tuple #[])) (W6.setCell ⟨pb, 3, none⟩ (.slice (some ⟨g, 0, none⟩) (ps.length + 4) cap)) := by
  have nlp : ¬ lv.ownBlock = some pb := fun e => by obtain ⟨cur, hc⟩ := hlv pb e; exact blk_ne hc h.blk (by decide) rfl
  have nip : ¬ pv.ownBlock = some pb := owns_ne h.prs h.blk (by decide)
  have hb5 := hF5.blk h.blk nlp
  have hb6 := hF6.blk hb5 nip
  have hiv5 : W5.ownsRow B 24 1 pv ps.length ps := owns_fr h.prs hF5 (fun k hk hl => by
    obtain ⟨cur, hc⟩ := hlv k hl
    exact owns_ne h.prs hc (by decide) hk)
  have old : ∀ {e s : Nat} {u : Value} {k : Nat} {ys : List Value}, W5.ownsRow B e s u k ys → e ≠ 24 → e ≠ 30 → (W6.setCell ⟨pb, 3, none⟩ (.slice (some ⟨g, 0, none⟩) (ps.length + 4) cap)).ownsRow B e s u k ys := fun {e s u k ys} hu he he' =>
    have hu6 := hK B e s u k ys hu (fun eb => by have := own_apart hu hiv5 he eb; subst this; simp)
    owns_set hu6 (owns_ne hu6 hb6 he') _ _
  refine ⟨rfl, _, o1, o2, o3, { bpb := h.bpb, blk := by rw [blk_set hb6]; rfl, ints := ?_, prs := ?_, ki := ?_, kp := ?_, i4 := h.i4, p4 := by have := h.p4; simp; omega }, ?_, hnew⟩
  · exact old (owns_fr h.ints hF5 (fun k hk hl => by obtain ⟨cur, hc⟩ := hlv k hl; exact owns_ne h.ints hc (by decide) hk)) (by decide) (by decide)
  · have := owns_set hrow (owns_ne hrow hb6 (by decide)) 3 (.slice (some ⟨g, 0, none⟩) (ps.length + 4) cap)
    simpa using this
  · intro i v hv
    obtain ⟨k, hk, hu⟩ := h.ki i v hv
    exact ⟨k, hk, old (owns_fr hu hF5 (fun q hq hl => by obtain ⟨cur, hc⟩ := hlv q hl; exact owns_ne hu hc (by decide) hq)) (by decide) (by decide)⟩
  · intro i v hv
    by_cases hi : i < ps.length
    · rw [List.getElem?_append_left hi] at hv
      obtain ⟨k, hk, hu⟩ := h.kp i v hv
      exact ⟨k, hk, old (owns_fr hu hF5 (fun q hq hl => hfresh i v q hv hq hl)) (by decide) (by decide)⟩
    · rw [List.getElem?_append_right (by omega)] at hv
      have e : markN i = markN ps.length := by
        have h4 : i - ps.length < 4 := (List.getElem?_eq_some_iff.1 hv).1
        have := h.p4
        unfold markN
        have : i / 4 = ps.length / 4 := by omega
        rw [this]
      rw [e]
      have h4 : i - ps.length < 4 := (List.getElem?_eq_some_iff.1 hv).1
      rcases (show i - ps.length = 0 ∨ i - ps.length = 1 ∨ i - ps.length = 2 ∨ i - ps.length = 3 by omega) with q | q | q | q <;> rw [q] at hv <;> simp at hv <;> subst hv
      · exact ⟨n, by omega, old hl (by decide) (by decide)⟩
      · exact ⟨n + 1, by omega, old h1 (by decide) (by decide)⟩
      · exact ⟨n + 2, by omega, old h2 (by decide) (by decide)⟩
      · exact ⟨n + 3, by omega, old h3 (by decide) (by decide)⟩
  · have hall : Fr (fun k => k = pb ∨ pv.ownBlock = some k ∨ lv.ownBlock = some k) W W6 := (hF5.mono (fun k _ hk => Or.inr (Or.inr hk))).trans hF6 (fun k _ hk => Or.inr (Or.inl hk))
    exact hall.setCell (p := ⟨pb, 3, none⟩) (fun _ => Or.inl rfl) _

end Go.Proofs.Ytlbmcdoldnajoaa
