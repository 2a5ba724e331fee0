/- The statement 'RunsSaid', over what the program's Run answers. -/
import Derived.Test.YtlbmcdoldnajoaaRuns1
import Derived.Test.YtlbmcdoldnajoaaOpenP
import Derived.Test.YtlbmcdoldnajoaaSaidKit
namespace Go.Proofs.Ytlbmcdoldnajoaa
open Go.ChangeShapes Go.WideShapes Go.ChangeAt Go.RowKit

theorem Try.bytesPair : Try.prog.bytesOf 42 = 16 := by kernel_rfl

set_option maxRecDepth 100000 in
theorem runs_lifted (hrun : RunOK) (os : Os) (started : os.Started) (H : Type) (enc : TypeId × Value → H) :
    ReturnsInHanded {} Try.checked os 4 .any (Rows.runsSpec.pre6 enc Try.prog Try.f4 Rows.runsRow.domain false) (Rows.runsSpec.post enc Try.prog Try.f4 false true false false) := by
  refine returnsInHanded_of_change_sized (C := Try.checked) Try.own started (by kernel_rfl) Try.func4
    (ChangeSpec.witness6 (enc := enc) (C := Try.checked) false ⟨#[], #[.slice none 0 0, .slice none 0 0, .int .i64 1], []⟩ 8 (by kernel_rfl) (by kernel_rfl) (by kernel_rfl) (by kernel_rfl)) ?_
  intro W base args ds gs before hval0 hW hcnd hsz0 _
  have hval : ∀ (j : Nat) t v, Try.f4.params[j]? = some t → args[j]? = some v → Value.okWide Try.prog W .any base t v := hval0
  have hsz : (DataW.weightsEach Try.prog (Try.f4.params.toList ++ Rows.runsSpec.plain.varTypes Try.prog) (ds ++ gs)).all (· ≤ reachBytes) = true := hsz0
  have hW' := hW
  obtain ⟨p, q, hA0, hV, rfl, hfz, hnd⟩ := hW
  have hA : DataW.TrodAll enc Try.prog W 0 (fun _ => true) true Try.f4.params.toList args.toList ds p := hA0
  rw [Try.params4] at hA hval hsz
  obtain ⟨v0, v1, v2, e0, e1, e2, p0, p1, p2, rfl, rfl, rfl, h0, h1, h2⟩ := trodAll_three hA
  obtain ⟨rfl, rfl⟩ := trodVars_none hV
  obtain ⟨a0, len0, cap0, rfl⟩ := okWide_slice Try.underlying22 (hval 0 22 v0 rfl rfl)
  obtain ⟨a1, len1, cap1, rfl⟩ := okWide_slice Try.underlying24 (hval 1 24 v1 rfl rfl)
  obtain ⟨n2, rfl⟩ := okWide_int Try.underlying3 (hval 2 3 v2 rfl rfl)
  have k0 := h0
  have k1 := h1
  have k2 := h2
  have lt0 : ∀ x ∈ p0, x.block < W.heap.size := by obtain ⟨m, hm⟩ := k0; exact DataW.trod_lt m _ _ _ hm
  have lt1 : ∀ x ∈ p1, x.block < W.heap.size := by obtain ⟨m, hm⟩ := k1; exact DataW.trod_lt m _ _ _ hm
  have lt2 : ∀ x ∈ p2, x.block < W.heap.size := by obtain ⟨m, hm⟩ := k2; exact DataW.trod_lt m _ _ _ hm
  obtain ⟨l, hst, hl⟩ : ∃ l : List St, StepsV W (.slice a0 len0 cap0) l ∧ l.length * 32 ≤ 140737488351232 := by
    obtain ⟨fuel, hf⟩ := h0
    obtain ⟨l, g1, g2⟩ := open_steps (v := .slice a0 len0 cap0) (by simpa [Value.cells] using hf)
    refine ⟨l, g1, ?_⟩
    rcases g2 with rfl | ⟨el, sp, he, hlen⟩
    · simp
    · have hd : e0 = .slice el sp := he
      subst hd
      have := sized_slice hsz (j := 0) (t := 22) (e := 40) rfl rfl Try.underlying22
      rw [Try.bytesStep] at this
      simp only [reachBytes] at this
      omega
  obtain ⟨ml, hpr, hml⟩ : ∃ ml : List (Int × Int), PairsV W W.heap.size (.slice a1 len1 cap1) ml ∧ ml.length * 16 ≤ 140737488351232 := by
    obtain ⟨fuel, hf⟩ := h1
    obtain ⟨ml, g1, g2⟩ := open_pairs (v := .slice a1 len1 cap1) (by simpa [Value.cells] using hf)
    have hb : ml.length * 16 ≤ 140737488351232 := by
      rcases g2 with rfl | ⟨el, sp, he, hlen⟩
      · simp
      · have hd : e1 = .slice el sp := he
        subst hd
        have := sized_slice hsz (j := 1) (t := 24) (e := 42) rfl rfl Try.underlying24
        rw [Try.bytesPair] at this
        simp only [reachBytes] at this
        omega
    exact ⟨ml, g1 (by omega), hb⟩
  clear hA0 hval0 hsz0
  refine (runs_walk hrun _ _ l ml n2 W hst hl hpr hml).mono fun e W' ⟨he, bel⟩ => ?_
  subst he
  exact ⟨_, rfl, _, _, _, [], _, [], hW', trodAll_mk1 (shut_bool Try.underlying4 _), trodAll_mk3 (Below.trod Try.laidOut (by kernel_rfl) (of_decide_eq_true (by kernel_rfl)) k0 bel lt0) (Below.trod Try.laidOut (by kernel_rfl) (of_decide_eq_true (by kernel_rfl)) k1 bel lt1) (Below.trod Try.laidOut (by kernel_rfl) (of_decide_eq_true (by kernel_rfl)) k2 bel lt2), rfl, bel.frame _, fun h => by cases h⟩

theorem runs_said (hrun : RunOK) : Rows.RunsSaid :=
  OpenClaim.holds_of_wide 4 Try.f4 rfl rfl rfl rfl rfl rfl rfl ⟨rfl, rfl, rfl, rfl, rfl⟩ rfl rfl rfl rfl rfl (by kernel_rfl) Try.func4 (by kernel_rfl)
    (of_decide_eq_true (by kernel_rfl)) (by unfold Func.isWrapper; rw [if_neg (of_decide_eq_false (by kernel_rfl))]; exact ⟨rfl, rfl⟩)
    (fun os started H enc _ => runs_lifted hrun os started H enc)

end Go.Proofs.Ytlbmcdoldnajoaa
