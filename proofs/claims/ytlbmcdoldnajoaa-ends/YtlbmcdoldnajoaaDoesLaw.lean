import Derived.Test.YtlbmcdoldnajoaaMom
import Derived.Deep.RegionHeld3
import Derived.Deep.DrawnRows
import Derived.Deep.QuietTactic
import Derived.BigQuiet
import Derived.StillTailTactics
import Derived.Deep.RegionLaw
import Derived.Deep.AppendLies

namespace Go.Proofs.Ytlbmcdoldnajoaa
structure MoOk (n : Nat) (x : Mo) : Prop where
  len : x.regs.length = 4
  regs : ∀ r ∈ x.regs, 0 ≤ r ∧ r ≤ 9999
  puts : ∀ k v, x.puts k = some v → v ≤ 9999
  pc : x.pc ≤ n
  told : x.told.length ≤ x.done
theorem mo0_ok (n : Nat) : MoOk n mo0 := ⟨rfl, by simp [mo0], by simp [mo0], Nat.zero_le _, by simp [mo0]⟩
theorem reg_le {x : Mo} {n : Nat} (h : MoOk n x) (a : Int) : 0 ≤ reg x a ∧ reg x a ≤ 9999 := by
  unfold reg
  by_cases ha : a.toNat < x.regs.length
  · have e : x.regs.getD a.toNat 0 = x.regs[a.toNat] := by simp [List.getD, ha]
    rw [e]
    exact h.regs _ (List.getElem_mem _)
  · have e : x.regs.getD a.toNat 0 = 0 := by simp [List.getD, List.getElem?_eq_none (Nat.le_of_not_lt ha)]
    omega
theorem see_le {x : Mo} {n : Nat} (h : MoOk n x) {m : Int → Int} (hm : ∀ k, m k ≤ 9999) (k : Int) : see m x.puts k ≤ 9999 := by
  unfold see
  cases e : x.puts k with
  | none => simpa using hm k
  | some v => simpa using h.puts k v e
theorem setReg_ok {n : Nat} {x : Mo} (h : MoOk n x) (a : Int) {v : Int} (h0 : 0 ≤ v) (h1 : v ≤ 9999) : MoOk n (setReg x a v) :=
  ⟨by simpa [setReg] using h.len, fun r hr => by
    rcases List.mem_or_eq_of_mem_set hr with hr | rfl
    · exact h.regs r hr
    · exact ⟨h0, h1⟩, h.puts, h.pc, h.told⟩
theorem bec_ok {n : Nat} {x : Mo} (h : MoOk n x) (a v : Int) : MoOk n (bec x a v) := by
  unfold bec
  split
  · exact ⟨h.len, h.regs, h.puts, h.pc, h.told⟩
  · exact setReg_ok h a (by omega) (by omega)
theorem read_ok {n : Nat} {x : Mo} (h : MoOk n x) (r : List Bool) : MoOk n { x with read := r } := ⟨h.len, h.regs, h.puts, h.pc, h.told⟩
theorem bec_done (x : Mo) (a v : Int) : (bec x a v).done = x.done := by unfold bec; split <;> rfl
/-- the step may stand where it stands -/
theorem stp_ok {n : Nat} {x : Mo} {s : St} {m : Int → Int} (h : MoOk n x) (hpc : x.pc < n) (hm : ∀ k, m k ≤ 9999) (hs : stB s x.pc n = true) : MoOk n (stp s m x) := by
  have h1 : MoOk n { x with done := x.done + 1, pc := x.pc + 1 } := ⟨h.len, h.regs, h.puts, hpc, Nat.le_succ_of_le h.told⟩
  have hsee := see_le h hm
  have hr := reg_le h
  unfold stB stepB at hs
  unfold stp
  simp only
  split at hs
  · rename_i e; rw [if_pos e]
    simp [inB] at hs
    exact setReg_ok h1 _ (by omega) (by omega)
  split at hs
  · rename_i e1 e; rw [if_neg e1, if_pos e]
    refine setReg_ok (read_ok h1 _) _ ?_ ?_ <;> split <;> first | omega | exact hsee _
  split at hs
  · rename_i e1 e2 e; rw [if_neg e1, if_neg e2, if_pos e]
    refine ⟨h1.len, h1.regs, fun k v hk => ?_, h1.pc, h1.told⟩
    simp only [putAt] at hk
    split at hk
    · injection hk with hk; rw [← hk]; exact (hr _).2
    · exact h.puts k v hk
  split at hs
  · rename_i e1 e2 e3 e; rw [if_neg e1, if_neg e2, if_neg e3, if_pos e]
    refine ⟨h1.len, h1.regs, fun k v hk => ?_, h1.pc, h1.told⟩
    simp only [putAt] at hk
    split at hk
    · injection hk with hk; omega
    · exact h.puts k v hk
  split at hs
  · rename_i e1 e2 e3 e4 e
    rw [if_neg e1, if_neg e2, if_neg e3, if_neg e4]
    by_cases e5 : s.op = 5
    · rw [if_pos e5]; exact bec_ok (read_ok h1 _) _ _
    · rw [if_neg e5, if_pos (by omega)]; exact bec_ok (read_ok h1 _) _ _
  split at hs
  · rename_i e1 e2 e3 e4 e5 e
    rw [if_neg e1, if_neg e2, if_neg e3, if_neg e4, if_neg (by omega), if_neg (by omega)]
    by_cases e7 : s.op = 7
    · rw [if_pos e7]; exact bec_ok h1 _ _
    · rw [if_neg e7, if_pos (by omega)]; exact bec_ok h1 _ _
  split at hs
  · rename_i e1 e2 e3 e4 e5 e7 e
    rw [if_neg e1, if_neg e2, if_neg e3, if_neg e4, if_neg (by omega), if_neg (by omega), if_neg (by omega), if_neg (by omega), if_pos e]
    simp [inB] at hs
    split
    · exact ⟨h1.len, h1.regs, h1.puts, by show x.pc + 1 + s.b.toNat ≤ n; omega, h1.told⟩
    · exact h1
  split at hs
  · rename_i e1 e2 e3 e4 e5 e7 e9 e
    rw [if_neg e1, if_neg e2, if_neg e3, if_neg e4, if_neg (by omega), if_neg (by omega), if_neg (by omega), if_neg (by omega), if_neg e9, if_pos e]
    split
    · exact ⟨h1.len, h1.regs, h1.puts, by show x.pc + 1 - s.b.toNat - 1 ≤ n; omega, h1.told⟩
    · exact h1
  split at hs
  · rename_i e1 e2 e3 e4 e5 e7 e9 e10 e
    rw [if_neg e1, if_neg e2, if_neg e3, if_neg e4, if_neg (by omega), if_neg (by omega), if_neg (by omega), if_neg (by omega), if_neg e9, if_neg e10, if_pos e]
    exact ⟨h1.len, h1.regs, h1.puts, h1.pc, by simpa using h.told⟩
  split at hs
  · rename_i e1 e2 e3 e4 e5 e7 e9 e10 e11 e
    rw [if_neg e1, if_neg e2, if_neg e3, if_neg e4, if_neg (by omega), if_neg (by omega), if_neg (by omega), if_neg (by omega), if_neg e9, if_neg e10, if_neg e11, if_pos e]
    exact ⟨h1.len, h1.regs, h1.puts, h1.pc, h1.told⟩
  · cases hs
theorem setReg_done (x : Mo) (a v : Int) : (setReg x a v).done = x.done := rfl
theorem putAt_done (x : Mo) (a v : Int) : (putAt x a v).done = x.done := rfl
theorem stp_done (s : St) (m : Int → Int) (x : Mo) : (stp s m x).done = x.done + 1 := by
  simp only [stp, apply_ite Mo.done, bec_done, setReg_done, putAt_done, ite_self]
theorem fin_ite {p : Prop} [Decidable p] {a b : Mo} {x : Int} (ha : a.fin = x ∨ a.fin = 4 ∨ a.fin = 5) (hb : b.fin = x ∨ b.fin = 4 ∨ b.fin = 5) : (if p then a else b).fin = x ∨ (if p then a else b).fin = 4 ∨ (if p then a else b).fin = 5 := by
  split <;> assumption
theorem bec_fin (x : Mo) (a v : Int) : (bec x a v).fin = x.fin ∨ (bec x a v).fin = 4 ∨ (bec x a v).fin = 5 := by
  unfold bec
  split
  · exact Or.inr (Or.inr rfl)
  · exact Or.inl rfl
theorem stp_fin (s : St) (m : Int → Int) (x : Mo) : (stp s m x).fin = x.fin ∨ (stp s m x).fin = 4 ∨ (stp s m x).fin = 5 := by
  unfold stp
  simp only
  exact fin_ite (Or.inl rfl) (fin_ite (Or.inl rfl) (fin_ite (Or.inl rfl) (fin_ite (Or.inl rfl) (fin_ite (bec_fin _ _ _) (fin_ite (bec_fin _ _ _) (fin_ite (bec_fin _ _ _) (fin_ite (bec_fin _ _ _)
    (fin_ite (fin_ite (Or.inl rfl) (Or.inl rfl)) (fin_ite (fin_ite (Or.inl rfl) (Or.inl rfl)) (fin_ite (Or.inl rfl) (fin_ite (Or.inr (Or.inl rfl)) (Or.inl rfl))))))))))))
theorem play_fin (l : List St) (m : Int → Int) : ∀ (n : Nat) (x : Mo), (x.fin = 0 ∨ x.fin = 4 ∨ x.fin = 5) → (play l m n x).fin = 0 ∨ (play l m n x).fin = 4 ∨ (play l m n x).fin = 5
  | 0, _, h => h
  | n + 1, x, h => by
    unfold play
    split
    · refine play_fin l m n _ ?_
      rcases stp_fin (l.getD x.pc stz) m x with e | e | e
      · rw [e]; exact h
      · exact Or.inr (Or.inl e)
      · exact Or.inr (Or.inr e)
    · exact h
/-- the state of a run that goes on, or has ended by a step -/
def stOf (y : Mo) : Int := if y.fin = 0 then 2 else y.fin
/-- what becomes of a run that goes on, at the next call of Next: its state, and the run -/
def nextE (l : List St) (m : Int → Int) (fn : Nat) (x : Mo) : Int × Mo :=
  if l.length ≤ x.pc then (3, x) else if fn ≤ x.done then (5, x) else (stOf (stp (l.getD x.pc stz) m x), stp (l.getD x.pc stz) m x)
end Go.Proofs.Ytlbmcdoldnajoaa

namespace Go.Proofs.Ytlbmcdoldnajoaa
open Go.RowKit
attribute [local go_sem ↓] Go.wp_at_zero Go.wp_at_succ
theorem name_wp {P : Program} {c : Code} {Q : Exit → Act → World → Prop} {a : Act} {W : World} {p : World → Prop} (h : p W) (k : ∀ W', p W' → Code.wp P c Q a W') : Code.wp P c Q a W := k W h
theorem name_calls {P : Program} {f : FuncId} {args : Array Value} {R : Ending → World → Prop} {W : World} {p : World → Prop} (h : p W) (k : ∀ W', p W' → Calls P f args W' R) : Calls P f args W R := k W h
end Go.Proofs.Ytlbmcdoldnajoaa

namespace Go.Proofs.Ytlbmcdoldnajoaa
open Go.RowKit
attribute [local go_sem ↓] Go.wp_at_zero Go.wp_at_succ
theorem wp_tail {id : Nat} {Q : Exit → Act → World → Prop} {a : Act} {w : World} {l : List Oper} (n : Nat) (hB : Region.lexTailB .any l.toArray n = true)
    (h : wpStill Try.prog l.toArray w.drew (fun a' => wpList Try.prog l.toArray Q (l.drop n) a' w.drew) (l.take n) a) : (Code.region id l.toArray true).wp Try.prog Q a w := wp_region_still_tail n (by kernel_rfl) hB h
end Go.Proofs.Ytlbmcdoldnajoaa

namespace Go.Proofs.Ytlbmcdoldnajoaa
open Go.RowKit
attribute [local go_sem ↓] Go.wp_at_zero Go.wp_at_succ
theorem Try.infoPair : (Try.prog.info? 42).map (fun i => (i.zero, i.size, i.bytes)) = some (some (.agg #[.int .i64 0, .int .i64 0]), 2, 16) := by kernel_rfl
theorem Try.infoInt : (Try.prog.info? 3).map (fun i => (i.zero, i.size, i.bytes)) = some (some (.int .i64 0), 1, 8) := by kernel_rfl
end Go.Proofs.Ytlbmcdoldnajoaa
