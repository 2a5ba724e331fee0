/- The document's own 'does', whatever the step. -/
import Derived.Test.YtlbmcdoldnajoaaDoesA
import Derived.Test.YtlbmcdoldnajoaaDoesB
import Derived.Test.YtlbmcdoldnajoaaDoes5
import Derived.Test.YtlbmcdoldnajoaaOk
namespace Go.Proofs.Ytlbmcdoldnajoaa
open Go.RowKit

theorem does_any (B : Nat) (w : World) (px rb db : Nat) (pv tv : Value) (x : Mo) (pl : List (Int × Int)) (s : St) (mv : Value) (ml : List (Int × Int)) (n : Nat) (hn : n ≤ 32) (hok : MoOk n x) (hpc : x.pc < n) (hs : stB s x.pc n = true)
    (hm : PairsV w B mv ml) (hml : ∀ k, vIn ml k ≤ 9999) (hd : x.done ≤ 1000) (hpl : pl.length ≤ x.done) (h : Mom B w px rb db pv tv x pl) :
    Calls Try.prog 106 #[.pointer (some ⟨px, 0, none⟩), .agg #[.int .i64 s.op, .int .i64 s.a, .int .i64 s.b, .int .i64 s.c], mv] w fun e w' => e = .returned (.tuple #[]) ∧
      ∃ pv' tv' pl', Mom B w' px rb db pv' tv' (stp s (vIn ml) x) pl' ∧ pl'.length ≤ pl.length + 1 ∧ Fr (momOwn px rb db pv tv) w w' := by
  obtain ⟨op, a, b, c⟩ := s
  have hpl' : pl.length ≤ 1000 := by omega
  have htl : x.told.length ≤ 1000 := by have := hok.told; omega
  have hpc' : x.pc ≤ 1000 := by omega
  have hv := see_le hok hml
  have plain : ∀ e w', (e = Ending.returned (.tuple #[]) ∧ Mom B w' px rb db pv tv (stp ⟨op, a, b, c⟩ (vIn ml) x) pl ∧ Fr (mom3 px rb db) w w') →
      e = Ending.returned (.tuple #[]) ∧ ∃ pv' tv' pl', Mom B w' px rb db pv' tv' (stp ⟨op, a, b, c⟩ (vIn ml) x) pl' ∧ pl'.length ≤ pl.length + 1 ∧ Fr (momOwn px rb db pv tv) w w' :=
    fun e w' ⟨h1, h2, h3⟩ => ⟨h1, pv, tv, pl, h2, by omega, h3.mono (fun _ _ h => mom3_own h)⟩
  unfold stB stepB at hs
  simp only at hs ⊢
  by_cases e1 : op = 1
  · subst e1
    simp [regB, inB] at hs
    exact (does_1 B w px rb db pv tv x pl a b c mv (vIn ml) hd hpc' h (by omega) (by omega)).mono plain
  rw [if_neg e1] at hs
  by_cases e2 : op = 2
  · subst e2
    simp [regB, keyB] at hs
    exact (does_2 B w px rb db pv tv x pl a b c mv hd hpc' h ml hm hpl' (by omega) (by omega) (by omega) (by omega)).mono plain
  rw [if_neg e2] at hs
  by_cases e3 : op = 3
  · subst e3
    simp [regB, keyB] at hs
    exact does_3 B w px rb db pv tv x pl a b c mv (vIn ml) hd hpc' h hpl' (by omega) (by omega)
  rw [if_neg e3] at hs
  by_cases e4 : op = 4
  · subst e4
    exact does_4 B w px rb db pv tv x pl a b c mv (vIn ml) hd hpc' h hpl'
  rw [if_neg e4] at hs
  by_cases e5 : op = 5 ∨ op = 6
  · rw [if_pos e5] at hs
    simp [regB, keyB] at hs
    rcases e5 with e5 | e5
    · subst e5
      exact (does_5 B w px rb db pv tv x pl a b c mv hd hpc' h ml hm hpl' (by omega) (by omega) (by omega) (by omega) (by omega) hv).mono plain
    · subst e5
      exact (does_6 B w px rb db pv tv x pl a b c mv hd hpc' h ml hm hpl' (by omega) (by omega) (by omega) (by omega) (by omega) hv).mono plain
  rw [if_neg e5] at hs
  by_cases e7 : op = 7 ∨ op = 8
  · rw [if_pos e7] at hs
    simp [regB] at hs
    rcases e7 with e7 | e7
    · subst e7
      exact (does_7 B w px rb db pv tv x pl a b c mv (vIn ml) hd hpc' h (by omega) (by omega) (by omega) (by omega) hok.regs).mono plain
    · subst e7
      exact (does_8 B w px rb db pv tv x pl a b c mv (vIn ml) hd hpc' h (by omega) (by omega) (by omega) (by omega) hok.regs).mono plain
  rw [if_neg e7] at hs
  by_cases e9 : op = 9
  · subst e9
    simp [regB, inB] at hs
    exact (does_9 B w px rb db pv tv x pl a b c mv (vIn ml) hd hpc' h (by omega) (by omega) (by omega) (by omega)).mono plain
  rw [if_neg e9] at hs
  by_cases e10 : op = 10
  · subst e10
    simp [regB, inB] at hs
    exact (does_10 B w px rb db pv tv x pl a b c mv (vIn ml) hd hpc' h (by omega) (by omega) (by omega) (by omega)).mono plain
  rw [if_neg e10] at hs
  by_cases e11 : op = 11
  · subst e11
    simp [regB] at hs
    exact does_11 B w px rb db pv tv x pl a b c mv (vIn ml) hd hpc' h htl (by omega) (by omega)
  rw [if_neg e11] at hs
  by_cases e12 : op = 12
  · subst e12
    exact (does_12 B w px rb db pv tv x pl a b c mv (vIn ml) hd hpc' h).mono plain
  rw [if_neg e12] at hs
  cases hs

end Go.Proofs.Ytlbmcdoldnajoaa
