/- Numbers, and slices of numbers, that came in. -/
import Derived.Test.YtlbmcdoldnajoaaPick
import Derived.Test.YtlbmcdoldnajoaaOpenP
namespace Go.Proofs.Ytlbmcdoldnajoaa
open Go.RowKit Go.Deep

theorem i64B_wf {n : Int} (h : (Lit.int .i64 n).wf = true) : i64B n := by
  have h' : IntKind.i64.min ≤ n ∧ n ≤ IntKind.i64.max := by simpa [Lit.wf] using h
  exact ⟨Int.le_trans (by decide) h'.1, Int.le_trans h'.2 (by decide)⟩

section
variable {H : Type} {enc : TypeId × Value → H} {w : World} {base : Nat} {spare : Nat → Bool} {held : Bool}

/-- a number that came in -/
theorem open_int {n : Int} {d : DataW H} {p : List MemPlace} (h : DataW.Trod enc Try.prog w base spare held 3 (.int .i64 n) d p) : i64B n := by
  obtain ⟨fuel, hf⟩ := h
  obtain ⟨m, e, _, hw⟩ := DataW.trod_int Try.underlying3 hf
  simp [Value.cells] at e
  subst e
  exact i64B_wf hw

set_option maxRecDepth 100000 in
theorem open_ints {fuel : Nat} {v : Value} {x : DataW H × List MemPlace} (h : DataW.trod enc Try.prog w base spare held fuel 37 [v] = some x) :
    ∃ l : List Int, (∀ n ∈ l, i64B n) ∧ (l.length ≤ 140737488351232 → IntsV w v l) ∧ (l = [] ∨ ∃ el sp, x.1 = .slice el sp ∧ el.length = l.length) := by
  rcases open_slice Try.underlying37 h with ⟨hc, _⟩ | ⟨a, len, cap, m, n, D, Pl, hc, hb, hl, hm, hmm, hx, hall⟩
  · simp at hc
    exact ⟨[], by simp, fun _ => ⟨none, 0, hc, Nat.zero_le _, Or.inl rfl⟩, Or.inl rfl⟩
  · simp at hc
    have hlm : len ≤ m := by rw [hmm]; split <;> omega
    obtain ⟨S, hS⟩ := choose_lt (n := len) (p := fun i (s : Int) => i64B s ∧ w.cell? (a.add i) = some (Value.int .i64 s)) (fun i hi => by
      obtain ⟨cs, h1, h2⟩ := hall i (by omega)
      rw [Try.cellsInt] at h1
      obtain ⟨_, _, hcell⟩ := World.cells?_some h1
      obtain ⟨s, rfl, _, hw⟩ := DataW.trod_int Try.underlying3 h2
      have := hcell 0 (by omega)
      simp only [Nat.mul_one] at this
      exact ⟨s, i64B_wf hw, by simpa [WideShapes.add_plain, Addr.add] using this⟩)
    have hlen : ((List.range len).map S).length = len := by simp
    refine ⟨(List.range len).map S, fun n hn => ?_, fun hmax => ⟨some a, cap, by rw [hlen]; exact hc, hmax, ?_⟩, Or.inr ⟨_, _, by rw [hx], by simp⟩⟩
    · simp only [List.mem_map, List.mem_range] at hn
      obtain ⟨i, hi, rfl⟩ := hn
      exact (hS i hi).1
    by_cases h0 : len = 0
    · left; subst h0; rfl
    · right
      obtain ⟨b, off, spot⟩ := a
      have hz := (hS 0 (by omega)).2
      simp [Addr.add] at hz
      have hspot : spot = none := by simpa using World.cell?_spot hz
      subst hspot
      refine ⟨b, off, rfl, World.block_lt_of_cell? w _ hz, fun i hi => ?_⟩
      rw [hlen] at hi
      have e : ((List.range len).map S).getD i 0 = S i := by simp [List.getD, hi]
      rw [e]
      have q := (hS i hi).2
      simp only [WideShapes.add_plain] at q
      exact q
end

end Go.Proofs.Ytlbmcdoldnajoaa
