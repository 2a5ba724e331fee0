/- 'append' onto an owned slice: what it hands back owns the old cells and the new ones; the old slice still owns its own. Nothing of the program here. -/
import Derived.Deep.AppendLies
import Derived.ArgAppend
import Derived.Test.YtlbmcdoldnajoaaFrame
namespace Go.Proofs.Ytlbmcdoldnajoaa
open Go.RowKit

theorem setCells_block {b : Nat} : ∀ (vs : List Value) (o : Nat) (w : World) (cur : Array Value) (t : TypeId) (fr : Nat × Nat), w.heap[b]? = some (.cells cur t fr) →
    ∃ cur' : Array Value, (w.setCells b o vs).heap[b]? = some (.cells cur' t fr) ∧ cur'.size = cur.size ∧ (∀ i, i < o → cur'[i]? = cur[i]?)
  | [], _, _, cur, _, _, h => ⟨cur, h, rfl, fun _ _ => rfl⟩
  | v :: r, o, w, cur, t, fr, h => by
    have h1 : (w.setCell ⟨b, o, none⟩ v).heap[b]? = some (.cells (cur.setIfInBounds o v) t fr) := by
      rw [setCell_eq_setRow w b o cur t fr v h]; exact setRow_heap w b cur _ t _ h
    obtain ⟨cur', h2, h3, h4⟩ := setCells_block r (o + 1) _ _ t fr h1
    refine ⟨cur', h2, by simpa using h3, fun i hi => ?_⟩
    rw [h4 i (by omega)]
    simp [show ¬ o = i by omega]

/-- every row that was owned still is, if it does not reach behind the n-th cell of v's own row -/
def KeepsRows (w w' : World) (v : Value) (n : Nat) : Prop := ∀ (b e s : Nat) (u : Value) (k : Nat) (ys : List Value), w.ownsRow b e s u k ys → (u.ownBlock = v.ownBlock → k * s ≤ n) → w'.ownsRow b e s u k ys

theorem keeps_of_block {w w' : World} {b e s : Nat} {u : Value} {k : Nat} {ys : List Value} (h : w.ownsRow b e s u k ys) (hb : ∀ g, u.ownBlock = some g → w'.heap[g]? = w.heap[g]?) : w'.ownsRow b e s u k ys := by
  refine ⟨h.1, ?_⟩
  rcases h.2 with h | ⟨g, cap, cur, rfl, h2, h3, h4⟩
  · exact Or.inl h
  · exact Or.inr ⟨g, cap, cur, rfl, h2, by rw [hb g rfl]; exact h3, h4⟩

theorem run_append_keep {P : Program} (w : World) (t ty : TypeId) (base : Nat) (e : TypeId) (i : TypeInfo) (z : Value) (size bytes : Nat) (ht : P.underlying t = some (.slice e)) (hi : P.info? e = some i) (hz : i.zero = some z)
    (hsize : i.size = size) (hby : i.bytes = bytes) (hzs : z.cells.size = size) (hsz : 0 < size)
    (v : Value) (n : Nat) (xs : List Value) (hown : w.ownsRow base e size v n xs)
    (ad : Addr) (m c : Nat) (news : List Value) (hl : news.length = m * size) (hnews : ∀ j u, news[j]? = some u → w.cell? (ad.add j) = some u) (h1 : ∀ u ∈ news, u.oneCell' = true)
    (hm : 0 < m) (h63 : n + m ≤ maxLen) (hbytes : (n + m) * bytes ≤ 140737488355328) (hbase : base ≤ w.heap.size) :
    ∃ g cap w', (Builtin.append_ #[t, t] ty #[v, .slice (some ad) m c]).run P w = .ok (.slice (some ⟨g, 0, none⟩) (n + m) cap) w' ∧
      w'.ownsRow base e size (.slice (some ⟨g, 0, none⟩) (n + m) cap) (n + m) (xs ++ news) ∧ KeepsRows w w' v (n * size) ∧ w.grownBy w' v.ownBlock ∧ (v.ownBlock = some g ∨ w.heap.size ≤ g) ∧ g < w'.heap.size := by
  obtain ⟨g, cap, w', hr, h2, h3, h4, h5⟩ := run_append_lies (P := P) w t ty base e i z size bytes ht hi hz hsize hby hzs hsz v n xs hown ad m c news hl hnews h1 hm h63 hbytes hbase _ rfl
  refine ⟨g, cap, w', hr, h2, ?_, h3, ?_, h5⟩
  · intro b2 e2 s2 u k ys hu hk
    rcases hown.2 with ⟨rfl, h0⟩ | ⟨gv, cv, cur, rfl, hb, hh, hn, hc, hs, htk⟩
    · refine keeps_of_block hu (fun q hq => ?_)
      have hq' : q < w.heap.size := by
        rcases hu.2 with ⟨rfl, _⟩ | ⟨g2, c2, u2, rfl, _, h6, _⟩
        · cases hq
        · injection hq with hq; have hq : g2 = q := hq; subst hq; exact (Array.getElem?_eq_some_iff.1 h6).1
      exact h3.block q hq' (by simp [Value.ownBlock])
    · by_cases hroom : n + m ≤ cv
      · -- there is room: the cells behind the n-th are written, no other
        subst hsize
        have hcell : ∀ j, j < news.length → (w.cell? ⟨gv, 0 + n * i.size + j, none⟩).isSome = true := fun j hj => by
          have : 0 + n * i.size + j < cur.size := by
            have h6 : (n + m) * i.size ≤ cv * i.size := Nat.mul_le_mul_right _ hroom
            rw [Nat.add_mul] at h6
            omega
          simp only [Nat.zero_add] at this ⊢
          simp [World.cell?, hh, this]
        have hfr : ∀ j, j < news.length → w.frozen? ⟨gv, 0 + n * i.size + j, none⟩ = false := fun j _ => by simp [World.frozen?, hh]
        have hrun := run_append_room_cells (P := P) w t ty e i ht hi gv 0 n cv ad m c news hl hnews h1 hroom hcell hfr
        rw [hrun] at hr
        injection hr with _ hw
        subst hw
        obtain ⟨cur', k1, k2, k3⟩ := setCells_block news (0 + n * i.size) w cur e (0, 0) hh
        rcases hu.2 with hu2 | ⟨g2, c2, u2, rfl, hb2, hh2, hn2, hc2, hs2, ht2⟩
        · exact ⟨hu.1, Or.inl hu2⟩
        · by_cases hg : g2 = gv
          · subst hg
            rw [hh] at hh2
            injection hh2 with hh2
            injection hh2 with q1 q2
            subst q1 q2
            have hkn := hk rfl
            refine ⟨hu.1, Or.inr ⟨g2, c2, cur', rfl, hb2, k1, hn2, hc2, by rw [k2]; exact hs2, ?_⟩⟩
            rw [← ht2]
            apply List.ext_getElem?
            intro j
            by_cases hj : j < k * s2
            · rw [List.getElem?_take_of_lt hj, List.getElem?_take_of_lt hj]
              simpa using k3 j (by omega)
            · rw [List.getElem?_eq_none (by simp; omega), List.getElem?_eq_none (by simp; omega)]
          · refine ⟨hu.1, Or.inr ⟨g2, c2, u2, rfl, hb2, ?_, hn2, hc2, hs2, ht2⟩⟩
            rw [h3.block g2 (Array.getElem?_eq_some_iff.1 hh2).1 (by simp [Value.ownBlock]; exact hg)]
            exact hh2
      · -- it grows: nothing that was there is written
        have holds : ∀ j u, xs[j]? = some u → w.cell? ((⟨gv, 0, none⟩ : Addr).add j) = some u := fun j u hu => by
          have hadd : (⟨gv, 0, none⟩ : Addr).add j = ⟨gv, j, none⟩ := by unfold Addr.add; split <;> simp_all
          have hj : j < xs.length := (List.getElem?_eq_some_iff.1 hu).1
          rw [hown.1] at hj
          rw [hadd]
          rw [← htk, List.getElem?_take_of_lt hj] at hu
          simpa [World.cell?, hh] using hu
        obtain ⟨v', w'', hrun, _, hgr⟩ := run_append_arg_grows (P := P) w t ty e i z size bytes ht hi hz hsize hby hzs hsz ⟨gv, 0, none⟩ n cv xs hown.1 holds ad m c news hl hnews (by omega) h63 hbytes
        rw [hrun] at hr
        injection hr with _ hw
        subst hw
        refine keeps_of_block hu (fun q hq => ?_)
        have hq' : q < w.heap.size := by
          rcases hu.2 with ⟨rfl, _⟩ | ⟨g2, c2, u2, rfl, _, h6, _⟩
          · cases hq
          · injection hq with hq; have hq : g2 = q := hq; subst hq; exact (Array.getElem?_eq_some_iff.1 h6).1
        exact hgr.block q hq' (by simp)
  · rcases h4 with h4 | h4
    · exact Or.inl h4
    · exact Or.inr (by omega)

theorem wpList_append_keep {P : Program} {w : World} {ops : Array Oper} {rest : List Oper} {o : Oper} {a : Act} {Q : Exit → Act → World → Prop} (hgd : o.guard = none) (s x : Operand) (t : TypeId)
    (ho : o.op = .call { callee := .builtin .append, args := #[s, x], argTypes := #[t, t] })
    (base : Nat) (e : TypeId) (i : TypeInfo) (z : Value) (size bytes : Nat) (ht : P.underlying t = some (.slice e)) (hi : P.info? e = some i) (hz : i.zero = some z)
    (hsize : i.size = size) (hby : i.bytes = bytes) (hzs : z.cells.size = size) (hsz : 0 < size)
    (v : Value) (n : Nat) (xs : List Value) (hs : a.eval s = v) (hown : w.ownsRow base e size v n xs)
    (ad : Addr) (m c : Nat) (news : List Value) (hx : a.eval x = .slice (some ad) m c) (hl : news.length = m * size) (hnews : ∀ j u, news[j]? = some u → w.cell? (ad.add j) = some u) (h1 : ∀ u ∈ news, u.oneCell' = true)
    (hm : 0 < m) (h63 : n + m ≤ maxLen) (hbytes : (n + m) * bytes ≤ 140737488355328) (hbase : base ≤ w.heap.size)
    (h : ∀ g cap w', w'.ownsRow base e size (.slice (some ⟨g, 0, none⟩) (n + m) cap) (n + m) (xs ++ news) → KeepsRows w w' v (n * size) → w.grownBy w' v.ownBlock → (v.ownBlock = some g ∨ w.heap.size ≤ g) → g < w'.heap.size → wpList P ops Q rest (a.put o.dst (.slice (some ⟨g, 0, none⟩) (n + m) cap)) w') :
    wpList P ops Q (o :: rest) a w := by
  refine wpList_plain hgd fun K hK => ?_
  obtain ⟨g, cap, w', hr, h2, h3, h4, h5, h6⟩ := run_append_keep (P := P) w t o.type base e i z size bytes ht hi hz hsize hby hzs hsz v n xs hown ad m c news hl hnews h1 hm h63 hbytes hbase
  unfold Oper.wp execOp
  simp only [ho, resolve, invoke, builtin, Sem.run_bind, Sem.run_pure, Result.andThen_ok, List.map_toArray, List.map_cons, List.map_nil, hs, hx, hr]
  exact hK _ _ (h g cap w' h2 h3 h4 h5 h6)

end Go.Proofs.Ytlbmcdoldnajoaa
