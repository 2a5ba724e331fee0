/- 'checked' and the law 'Checks' itself: the walk. -/
import Derived.Test.YtlbmcdoldnajoaaStill
import Derived.Test.YtlbmcdoldnajoaaCheckW
import Derived.Test.YtlbmcdoldnajoaaRefCheckW
namespace Go.Proofs.Ytlbmcdoldnajoaa
open Go.RowKit

set_option maxRecDepth 100000 in
set_option maxHeartbeats 400000 in
theorem checked_any (v : Value) (l : List St) (w : World) (h : StepsV w v l) (hl : l.length * 32 ≤ 140737488351232) :
    Calls Try.prog 13 #[v] w fun e w' => e = .returned (.bool true) ∧ Below w.heap.size w w' := by
  have H : Hid (StepsV w v l) := h
  clear h
  go_enter Try.func13, Try.ntmps13
  go_wp2_with (go_at_call 42; refine (roomy_any _ l _ H.out hl).mono ?_; rintro e w1 ⟨g, rfl, hg1, hg2, hst1, hb1⟩)
  have HS : Hid (StepsAt w1 g 0 (l ++ [stw])) := hst1
  clear hst1
  have hroom : Hid (StepsV w1 (.slice (some ⟨g, 0, none⟩) l.length (l.length + 1)) l) := ⟨_, _, rfl, Or.inr ⟨g, 0, rfl, hg2, fun i hi => by
    have := HS.out i (by simp; omega)
    rwa [show (l ++ [stw]).getD i stz = l.getD i stz by simp [List.getD, List.getElem?_append_left hi]] at this⟩⟩
  go_wp2_with (go_at_call 43; refine (check_any _ l _ hroom.out).mono ?_; rintro e w2 ⟨rfl, hb2⟩)
  go_wp2_with (go_at_call 44; refine (refCheck_any _ l _ ((H.out.below hb1).below hb2)).mono ?_; rintro e w3 ⟨rfl, hb3⟩)
  have hsz : g < w3.heap.size := by have := hb2.size; have := hb3.size; omega
  go_wp2_with (go_at_call 45; refine (still_any g _ l _ (by omega) hsz ((HS.out.below hb2 hg2).below hb3 (by have := hb2.size; omega)) (((H.out.below hb1).below hb2).below hb3)).mono ?_; rintro e w4 ⟨rfl, hb4⟩)
  go_ret
  exact ⟨rfl, ((hb1.trans (hb2.mono hb1.size)).trans (hb3.mono (Nat.le_trans hb1.size hb2.size))).trans (hb4.mono (Nat.le_trans (Nat.le_trans hb1.size hb2.size) hb3.size))⟩

set_option maxRecDepth 100000 in
set_option maxHeartbeats 400000 in
theorem checks_walk (v : Value) (l : List St) (w : World) (h : StepsV w v l) (hl : l.length * 32 ≤ 140737488351232) :
    Calls Try.prog 3 #[v] w fun e w' => e = .returned (.bool true) ∧ Below w.heap.size w w' := by
  have H : Hid (StepsV w v l) := h
  clear h
  have H0 : Hid (StepsV w (.slice none 0 0) []) := ⟨_, _, rfl, Or.inl rfl⟩
  go_enter Try.func3, Try.ntmps3
  go_wp2_with (first | (go_at_call_of 13 (Value.slice none 0 0); refine (checked_any _ [] _ H0.out (by simp)).mono ?_; rintro e w1 ⟨rfl, hb1⟩) | (go_at_call_of 13 v; refine (checked_any _ l _ (H.out.below hb1) hl).mono ?_; rintro e w2 ⟨rfl, hb2⟩))
  go_ret
  exact ⟨rfl, hb1.trans (hb2.mono hb1.size)⟩

end Go.Proofs.Ytlbmcdoldnajoaa
