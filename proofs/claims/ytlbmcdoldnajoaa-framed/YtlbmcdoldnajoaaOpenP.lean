/- A slice of pairs that came in, opened. -/
import Derived.Test.YtlbmcdoldnajoaaMemP
import Derived.Test.YtlbmcdoldnajoaaOpen
namespace Go.Proofs.Ytlbmcdoldnajoaa
open Go.RowKit Go.Deep

theorem Try.cellsPair : Try.prog.cellsOf 42 = 2 := by kernel_rfl

section
variable {H : Type} {enc : TypeId × Value → H} {w : World} {base : Nat} {spare : Nat → Bool} {held : Bool}

set_option maxRecDepth 100000 in
/-- one pair, out of its two cells -/
theorem open_pair {fuel : Nat} {cs : List Value} {x : DataW H × List MemPlace} (h : DataW.trod enc Try.prog w base spare held fuel 42 cs = some x) :
    ∃ s : Int × Int, cs = [.int .i64 s.1, .int .i64 s.2] := by
  obtain ⟨xs, k, _, _, hlen, hxl, hf⟩ := DataW.trod_struct Try.underlying42 h
  rw [Try.cellsPair] at hlen
  match xs, hxl, cs, hlen with
  | [y0, y1], _, [v0, v1], _ =>
    have g0 := hf 0 _ rfl
    have g1 := hf 1 _ rfl
    simp [Try.cellsInt] at g0 g1
    obtain ⟨a, e0, _, _⟩ := DataW.trod_int Try.underlying3 g0
    obtain ⟨b, e1, _, _⟩ := DataW.trod_int Try.underlying3 g1
    simp at e0 e1
    subst e0 e1
    exact ⟨(a, b), rfl⟩

set_option maxRecDepth 100000 in
theorem open_pairs {fuel : Nat} {v : Value} {x : DataW H × List MemPlace} (h : DataW.trod enc Try.prog w base spare held fuel 24 [v] = some x) :
    ∃ l : List (Int × Int), (l.length ≤ 140737488351232 → PairsV w w.heap.size v l) ∧ (l = [] ∨ ∃ el sp, x.1 = .slice el sp ∧ el.length = l.length) := by
  rcases open_slice Try.underlying24 h with ⟨hc, _⟩ | ⟨a, len, cap, m, n, D, Pl, hc, hb, hl, hm, hmm, hx, hall⟩
  · simp at hc
    exact ⟨[], fun _ => ⟨none, 0, hc, Nat.zero_le _, Or.inl rfl⟩, Or.inl rfl⟩
  · simp at hc
    have hlm : len ≤ m := by rw [hmm]; split <;> omega
    obtain ⟨S, hS⟩ := choose_lt (n := len) (p := fun i (s : Int × Int) => ∀ j, j < 2 → w.cell? ((a.add (i * 2)).add j) = [Value.int .i64 s.1, .int .i64 s.2][j]?) (fun i hi => by
      obtain ⟨cs, h1, h2⟩ := hall i (by omega)
      rw [Try.cellsPair] at h1
      obtain ⟨_, _, hcell⟩ := World.cells?_some h1
      obtain ⟨s, rfl⟩ := open_pair h2
      exact ⟨s, hcell⟩)
    have hlen : ((List.range len).map S).length = len := by simp
    refine ⟨(List.range len).map S, fun hmax => ⟨some a, cap, by rw [hlen]; exact hc, hmax, ?_⟩, Or.inr ⟨_, _, by rw [hx], by simp⟩⟩
    by_cases h0 : len = 0
    · left; subst h0; rfl
    · right
      obtain ⟨b, off, spot⟩ := a
      have hz := hS 0 (by omega) 0 (by omega)
      simp [Addr.add] at hz
      have hspot : spot = none := by simpa using World.cell?_spot hz
      subst hspot
      refine ⟨b, off, rfl, World.block_lt_of_cell? w _ hz, fun i hi => ?_⟩
      rw [hlen] at hi
      have e : ((List.range len).map S).getD i pz = S i := by simp [List.getD, hi]
      rw [e]
      have q := hS i hi
      simp only [WideShapes.add_plain] at q
      have q0 := q 0 (by omega)
      have q1 := q 1 (by omega)
      simp only [Nat.add_zero] at q0 q1
      exact ⟨q0, q1⟩
end

end Go.Proofs.Ytlbmcdoldnajoaa
