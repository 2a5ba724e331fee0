/- the law 'Runs' itself: the walk. -/
import Derived.Test.YtlbmcdoldnajoaaRan1
namespace Go.Proofs.Ytlbmcdoldnajoaa
open Go.RowKit

theorem LW.start (W0 : World) (t : Obj) (ht : t = .cells #[.slice none 0 0, .bool false, .slice none 0 0, .slice none 0 0] 30) : LW W0.heap.size (W0.alloc t) W0.heap.size (.slice none 0 0) false (.slice none 0 0) (.slice none 0 0) [] [] := by
  subst ht
  exact ⟨Nat.le_refl _, heap_alloc_new _ _, World.ownsRow_nil _ _ _ _, World.ownsRow_nil _ _ _ _, fun i v h => by simp at h, fun i v h => by simp at h, rfl, rfl⟩

set_option maxRecDepth 100000 in
set_option maxHeartbeats 1000000 in
theorem runs_walk (hrun : RunOK) (v mv : Value) (l : List St) (ml : List (Int × Int)) (fuel : Int) (w : World) (hs : StepsV w v l) (hl : l.length * 32 ≤ 140737488351232) (hm : PairsV w w.heap.size mv ml) (hml : ml.length * 16 ≤ 140737488351232) :
    Calls Try.prog 4 #[v, mv, .int .i64 fuel] w fun e w' => e = .returned (.bool true) ∧ Below w.heap.size w w' := by
  have HR : Hid RunOK := hrun
  have HS : Hid (StepsV w v l) := hs
  have HM : Hid (PairsV w w.heap.size mv ml) := hm
  have H0 : Hid (StepsV w (.slice none 0 0) []) := ⟨_, _, rfl, Or.inl rfl⟩
  have M0 : Hid (PairsV w w.heap.size (.slice none 0 0) []) := ⟨_, _, rfl, Nat.zero_le _, Or.inl rfl⟩
  clear hrun hs hm
  go_enter Try.func4, Try.ntmps4
  go_wp2_with fail
  refine (ran_any HR.out w _ w.heap.size _ _ _ _ [] [] _ _ [] [] 1 (LW.start w _ rfl) (by simp) (by simp) ((Below.refl _ _).alloc (Nat.le_refl _) _) H0.out (by simp) M0.out (by simp)).mono ?_
  rintro e W1 ⟨rfl, i1, p1, v1, s1, L1, n1, k1, B1⟩
  have HL1 : Hid (LW w.heap.size W1 w.heap.size (.slice none 0 0) false i1 p1 v1 s1) := L1
  have HB1 : Hid (Below w.heap.size w W1) := B1
  clear L1 B1
  simp only [List.length_nil, Nat.zero_add] at n1 k1
  go_wp2_with fail
  refine (ran_any HR.out w W1 w.heap.size _ _ _ _ v1 s1 _ _ l ml fuel HL1.out (by omega) (by omega) HB1.out HS.out hl HM.out hml).mono ?_
  rintro e W2 ⟨rfl, i2, p2, v2, s2, L2, n2, k2, B2⟩
  have HL2 : Hid (LW w.heap.size W2 w.heap.size (.slice none 0 0) false i2 p2 v2 s2) := L2
  have HB2 : Hid (Below w.heap.size w W2) := B2
  clear L2 B2
  go_wp2_with fail
  refine (ran_any HR.out w W2 w.heap.size _ _ _ _ v2 s2 _ _ l ml fuel HL2.out (by omega) (by omega) HB2.out HS.out hl HM.out hml).mono ?_
  rintro e W3 ⟨rfl, i3, p3, v3, s3, L3, n3, k3, B3⟩
  obtain ⟨ia, ic, rfl⟩ := owns_form L3.ints
  obtain ⟨pa, pc, rfl⟩ := owns_form L3.prs
  have HL3 : Hid (LW w.heap.size W3 w.heap.size (.slice none 0 0) false (.slice ia v3.length ic) (.slice pa s3.length pc) v3 s3) := L3
  have HB3 : Hid (Below w.heap.size w W3) := B3
  clear L3 B3
  go_wp2_with fail
  refine (whole_any w.heap.size W3 w.heap.size _ _ ia _ ic pa _ pc v3 s3 rfl rfl (by omega) (by omega) HL3.out).mono ?_
  rintro e W4 ⟨rfl, B4⟩
  go_wp2
  go_ret
  exact ⟨rfl, HB3.out.trans (B4.mono HB3.out.size)⟩

end Go.Proofs.Ytlbmcdoldnajoaa
