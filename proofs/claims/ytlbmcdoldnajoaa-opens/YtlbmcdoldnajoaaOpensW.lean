/- The law 'Opens': the walk. -/
import Derived.Test.YtlbmcdoldnajoaaLawG
import Derived.Test.YtlbmcdoldnajoaaPNew
namespace Go.Proofs.Ytlbmcdoldnajoaa
open Go.RowKit

/-- nothing was handed in -/
def noJobs (d : DeskM) : Prop := d.jobs = [] ∧ d.goods = []

set_option maxRecDepth 100000 in
set_option maxHeartbeats 400000 in
theorem some_any (w : World) : Calls Try.prog 16 #[] w fun e w' => e = .returned (confV 2 4 20 1) ∧ Below w.heap.size w w' := by
  go_enter Try.func16, Try.ntmps16
  go_wp2
  exact bodyPost_ret (v := confV 2 4 20 1) (by simp [results, Try.results16, go_sem, confV]) rfl ⟨rfl, (Below.refl _ _).alloc (Nat.le_refl _) _⟩

theorem LA.start (K : DeskKit) (Inv : DeskM → Prop) (W0 : World) (one : Bool) (t : Obj) (ht : t = .cells #[.slice none 0 0, .bool one, .slice none 0 0, .slice none 0 0] 30) :
    LA K Inv W0.heap.size (fun k => if k = W0.heap.size then 1 else 0) (W0.alloc t) W0.heap.size (.slice none 0 0) one (.slice none 0 0) (.slice none 0 0) [] [] [] := by
  subst ht
  exact { lw := ⟨Nat.le_refl _, heap_alloc_new _ _, World.ownsRow_nil _ _ _ _, World.ownsRow_nil _ _ _ _, fun i v h => by simp at h, fun i v h => by simp at h, rfl, rfl⟩
          lo := fun k hk => by
            rcases hk with hk | hk | hk | ⟨i, v, hv, _⟩ | ⟨i, v, hv, _⟩
            · rw [if_pos hk]
            · cases hk
            · cases hk
            · simp at hv
            · simp at hv
          row := World.ownsRow_nil _ _ _ _
          ro := fun k hk => by cases hk
          pr := fun i hi => absurd hi (Nat.not_lt_zero _)
          px := fun i hi => absurd hi (Nat.not_lt_zero _)
          py := fun i hi => absurd hi (Nat.not_lt_zero _)
          inv := fun i hi => absurd hi (Nat.not_lt_zero _)
          ge := fun k hk => by
            by_cases e : k = W0.heap.size
            · omega
            · rw [if_neg e] at hk; exact absurd rfl hk }

theorem polls_none {ds : List DP} (h : ∀ i, i < ds.length → noJobs (ds.getD i dp0).d) : ∀ j, j ≤ ds.length → pollsN ds j = 2 * j
  | 0, _ => rfl
  | j + 1, hj => by rw [pollsN, polls_none h j (by omega), (h j (by omega)).1, List.length_nil]; omega

set_option maxRecDepth 100000 in
set_option maxHeartbeats 400000 in
theorem opens_walk (a b c d : Int) (w : World) :
    Calls Try.prog 5 #[confV a b c d] w fun e w' => e = .returned (.bool true) ∧ Below w.heap.size w w' := by
  unfold confV
  go_enter Try.func5, Try.ntmps5
  go_wp2_with fail
  refine name_calls (p := fun X => X.heap[w.heap.size]? = some (.cells #[.int .i64 a, .int .i64 b, .int .i64 c, .int .i64 d] 34 (0, 0)) ∧ Below w.heap.size w X ∧ LA kitP noJobs (w.heap.size + 1) (fun k => if k = w.heap.size + 1 then 1 else 0) X (w.heap.size + 1) (.slice none 0 0) false (.slice none 0 0) (.slice none 0 0) [] [] []) ⟨new0E _ _ _, ((Below.refl _ _).alloc (Nat.le_refl _) _).alloc (by simp) _, ?_⟩ ?_
  · have := LA.start kitP noJobs (w.alloc (.cells #[.int .i64 a, .int .i64 b, .int .i64 c, .int .i64 d] 34)) false _ rfl
    rw [World.size_alloc] at this
    exact this
  rintro X ⟨k1, k2, k3⟩
  have HX : Hid (X.heap[w.heap.size]? = some (.cells #[.int .i64 a, .int .i64 b, .int .i64 c, .int .i64 d] 34 (0, 0)) ∧ Below w.heap.size w X ∧ LA kitP noJobs (w.heap.size + 1) (fun k => if k = w.heap.size + 1 then 1 else 0) X (w.heap.size + 1) (.slice none 0 0) false (.slice none 0 0) (.slice none 0 0) [] [] []) := ⟨k1, k2, k3⟩
  clear k1 k2 k3
  refine (some_any X).mono ?_
  rintro e W1 ⟨rfl, hb1⟩
  have HB1 : Hid (Below X.heap.size X W1) := hb1
  clear hb1
  unfold confV
  go_wp2_with fail
  refine name_calls (p := fun Y => Below X.heap.size X Y) (HB1.out.trans (HB1.out.size |> fun hs => ((Below.refl _ _).alloc (Nat.le_refl _) _).mono hs)) ?_
  intro Y hY
  have HY : Hid (LA kitP noJobs (w.heap.size + 1) (fun k => if k = w.heap.size + 1 then 1 else 0) Y (w.heap.size + 1) (.slice none 0 0) false (.slice none 0 0) (.slice none 0 0) [] [] [] ∧ Below X.heap.size X Y) := ⟨HX.out.2.2.below hY, hY⟩
  clear hY
  refine (opened_any kitP noJobs _ _ Y _ _ _ _ [] [] [] 2 4 20 1 HY.out.1 (by simp) (fun _ => ⟨rfl, rfl⟩)).mono ?_
  rintro e W2 ⟨rfl, own2, dv2, ds2, hL2, hb2, hc2⟩
  have HL2 : Hid (LA kitP noJobs (w.heap.size + 1) own2 W2 (w.heap.size + 1) dv2 false (.slice none 0 0) (.slice none 0 0) [] [] ds2 ∧ Below (w.heap.size + 1) Y W2 ∧ ds2.length ≤ 1) := ⟨hL2, hb2, by
    rcases hc2 with ⟨_, t, rfl, _⟩ | ⟨_, rfl⟩
    · simp
    · simp⟩
  clear hL2 hb2 hc2
  have hbox : W2.heap[w.heap.size]? = some (.cells #[.int .i64 a, .int .i64 b, .int .i64 c, .int .i64 d] 34 (0, 0)) := (HL2.out.2.1.block _ (by omega)).trans ((HY.out.2.block _ (blk_lt HX.out.1)).trans HX.out.1)
  have o0 : W2.cell? ⟨w.heap.size, 0, none⟩ = some (.int .i64 a) := by rw [blk_cell hbox]; rfl
  have o1 : W2.cell? ⟨w.heap.size, 1, none⟩ = some (.int .i64 b) := by rw [blk_cell hbox]; rfl
  have o2 : W2.cell? ⟨w.heap.size, 2, none⟩ = some (.int .i64 c) := by rw [blk_cell hbox]; rfl
  have o3 : W2.cell? ⟨w.heap.size, 3, none⟩ = some (.int .i64 d) := by rw [blk_cell hbox]; rfl
  have HBW2 : Hid (Below w.heap.size w W2) := (HX.out.2.1.trans (HY.out.2.mono HX.out.2.1.size)).trans (HL2.out.2.1.mono (Nat.le_succ _))
  clear hbox
  go_wp2_with fail
  refine (opened_any kitP noJobs _ _ W2 _ _ _ _ [] [] ds2 a b c d HL2.out.1 (by have := HL2.out.2.2; omega) (fun _ => ⟨rfl, rfl⟩)).mono ?_
  rintro e W3 ⟨rfl, own3, dv3, ds3, hL3, hb3, hc3⟩
  have HL3 : Hid (LA kitP noJobs (w.heap.size + 1) own3 W3 (w.heap.size + 1) dv3 false (.slice none 0 0) (.slice none 0 0) [] [] ds3 ∧ Below w.heap.size w W3 ∧ ds3.length ≤ 2) := ⟨hL3, HBW2.out.trans (hb3.mono (Nat.le_succ _)), by
    have := HL2.out.2.2
    rcases hc3 with ⟨_, t, rfl, _⟩ | ⟨_, rfl⟩
    · simp; omega
    · omega⟩
  clear hL3 hb3 hc3 o0 o1 o2 o3
  go_wp2_with fail
  refine (asked_any kitP noJobs _ _ W3 _ _ false _ _ [] [] ds3 HL3.out.1 (fun d hd => ⟨by rw [hd.1]; simp, by rw [hd.2]; simp, fun k hk => by rw [hd.1] at hk; simp at hk⟩) (by rw [polls_none HL3.out.1.inv _ (Nat.le_refl _)]; have := HL3.out.2.2; simp; omega) (by have := HL3.out.2.2; simp; omega)).mono ?_
  rintro e W4 ⟨rfl, own4, iv4, pv4, vs4, ps4, hL4, hb4⟩
  have HE : Hid (Below w.heap.size w W4) := HL3.out.2.1.trans (hb4.mono (Nat.le_succ _))
  clear hL4 hb4
  go_wp2
  go_ret
  exact ⟨rfl, HE.out⟩

end Go.Proofs.Ytlbmcdoldnajoaa
