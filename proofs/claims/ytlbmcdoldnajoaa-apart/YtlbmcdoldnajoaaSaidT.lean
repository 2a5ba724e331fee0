import Derived.Test.YtlbmcdoldnajoaaFrA
import Derived.SizedLaws
import Derived.Test.YtlbmcdoldnajoaaKFunO
import Derived.JoinedCond
import Derived.Test.YtlbmcdoldnajoaaKFunQ

namespace Go.Proofs.Ytlbmcdoldnajoaa
theorem Try.own : ownKnob Try.prog.godebug = none := by kernel_rfl
theorem Try.laidOut : laidOutB Try.prog = true := by kernel_rfl
end Go.Proofs.Ytlbmcdoldnajoaa

namespace Go.Proofs.Ytlbmcdoldnajoaa
open Go.RowKit Go.Deep
theorem bulk_one {H : Type} (d : DataW H) : 1 ≤ Rows.uptoBulk d := by
  cases d with
  | lit l => cases l <;> simp [Rows.uptoBulk]
  | _ => simp [Rows.uptoBulk]
theorem bulk_mem {H : Type} {d : DataW H} : ∀ {l : List (DataW H)}, d ∈ l → Rows.uptoBulk d ≤ Rows.uptoBulkAll l
  | x :: r, h => by
    rw [Rows.uptoBulkAll]
    rcases List.mem_cons.1 h with rfl | h
    · omega
    · have := bulk_mem h; omega
theorem bulk_len {H : Type} : ∀ l : List (DataW H), l.length ≤ Rows.uptoBulkAll l
  | [] => by simp
  | x :: r => by
    have h1 := bulk_len r
    have h2 := bulk_one x
    rw [Rows.uptoBulkAll, List.length_cons]
    omega
theorem bulk_elems {H : Type} (el sp : List (DataW H)) : Rows.uptoBulkAll el ≤ Rows.uptoBulk (.slice el sp) := by rw [Rows.uptoBulk]; omega
theorem Try.cellsConfB : Try.prog.cellsOf 34 = 4 := by kernel_rfl
theorem Try.cellsIntsB : Try.prog.cellsOf 37 = 1 := by kernel_rfl
section
variable {H : Type} {enc : TypeId × Value → H} {w : World} {base : Nat} {spare : Nat → Bool} {held : Bool}
set_option maxRecDepth 100000 in
theorem open_confB {fuel : Nat} {cs : List Value} {x : DataW H × List MemPlace} (h : DataW.trod enc Try.prog w base spare held fuel 34 cs = some x) :
    ∃ a b c d : Int, cs = [.int .i64 a, .int .i64 b, .int .i64 c, .int .i64 d] ∧ i64B a ∧ i64B b ∧ i64B c ∧ i64B d := by
  obtain ⟨xs, k, _, _, hlen, hxl, hf⟩ := DataW.trod_struct Try.underlying34 h
  rw [Try.cellsConfB] at hlen
  match xs, hxl, cs, hlen with
  | [y0, y1, y2, y3], _, [v0, v1, v2, v3], _ =>
    have g0 := hf 0 _ rfl
    have g1 := hf 1 _ rfl
    have g2 := hf 2 _ rfl
    have g3 := hf 3 _ rfl
    simp [Try.cellsInt] at g0 g1 g2 g3
    obtain ⟨a, e0, _, w0⟩ := DataW.trod_int Try.underlying3 g0
    obtain ⟨b, e1, _, w1⟩ := DataW.trod_int Try.underlying3 g1
    obtain ⟨c, e2, _, w2⟩ := DataW.trod_int Try.underlying3 g2
    obtain ⟨d, e3, _, w3⟩ := DataW.trod_int Try.underlying3 g3
    simp at e0 e1 e2 e3
    subst e0 e1 e2 e3
    exact ⟨a, b, c, d, rfl, i64B_wf w0, i64B_wf w1, i64B_wf w2, i64B_wf w3⟩
end
end Go.Proofs.Ytlbmcdoldnajoaa

namespace Go.Proofs.Ytlbmcdoldnajoaa
open Go.RowKit Go.Deep
section
variable {H : Type} {enc : TypeId × Value → H} {w : World} {base : Nat} {spare : Nat → Bool} {held : Bool}
set_option maxRecDepth 100000 in
theorem open_one {fuel : Nat} {v : Value} {x : DataW H × List MemPlace} (h : DataW.trod enc Try.prog w base spare held fuel 37 [v] = some x) (hx : Rows.uptoBulk x.1 ≤ 1048576) :
    ∃ l : List Int, (∀ y ∈ l, i64B y) ∧ IntsV w v l ∧ ∀ ao n cap, v = .slice ao n cap → n ≤ cap := by
  obtain ⟨l, l1, l2, l3⟩ := open_ints h
  have hl : l.length ≤ 1048576 := by
    rcases l3 with rfl | ⟨el, sp, he, hel⟩
    · simp
    · have h1 := bulk_len el
      have h2 := bulk_elems el sp
      rw [← he] at h2
      omega
  exact ⟨l, l1, l2 (by omega), open_room Try.underlying37 h⟩
set_option maxRecDepth 100000 in
theorem open_jobs {fuel : Nat} {v : Value} {x : DataW H × List MemPlace} (h : DataW.trod enc Try.prog w base spare held fuel 27 [v] = some x) (hx : Rows.uptoBulk x.1 ≤ 1048576) :
    ∃ S : List (Value × List Int), JbAt w.heap.size w v S ∧ S.length ≤ 1048576 := by
  rcases open_slice Try.underlying27 h with ⟨hc, _⟩ | ⟨a, len, cap, m, n, D, Pl, hc, hb, hl, hm, hmm, hxe, hall⟩
  · simp at hc
    exact ⟨[], ⟨⟨none, 0, hc, Or.inl rfl⟩, fun s hs => by cases hs⟩, by simp⟩
  · simp at hc
    have hlm : len ≤ m := by rw [hmm]; split <;> omega
    rw [hxe] at hx
    have hx : Rows.uptoBulk (.slice ((List.range len).map D) ((List.range (m - len)).map fun j => D (len + j))) ≤ 1048576 := hx
    have hel := bulk_elems ((List.range len).map D) ((List.range (m - len)).map fun j => D (len + j))
    haveI : Inhabited (Value × List Int) := ⟨(nilV, [])⟩
    obtain ⟨S, hS⟩ := choose_lt (n := len) (p := fun i (s : Value × List Int) => w.cell? (a.add i) = some s.1 ∧ (∀ y ∈ s.2, i64B y) ∧ IntsV w s.1 s.2 ∧ ∀ ao n cap, s.1 = .slice ao n cap → n ≤ cap) (fun i hi => by
      obtain ⟨cs, h1, h2⟩ := hall i (by omega)
      rw [Try.cellsIntsB] at h1
      obtain ⟨_, hcl, hcell⟩ := World.cells?_some h1
      have hbi : Rows.uptoBulk (D i) ≤ Rows.uptoBulkAll ((List.range len).map D) := bulk_mem (List.mem_map.2 ⟨i, List.mem_range.2 hi, rfl⟩)
      obtain ⟨u, rfl⟩ : ∃ u, cs = [u] := List.length_eq_one_iff.1 hcl
      obtain ⟨l, h3⟩ := open_one h2 (by show Rows.uptoBulk (D i) ≤ _; omega)
      have := hcell 0 (by omega)
      simp [Addr.add] at this
      exact ⟨(u, l), this, h3⟩)
    have hlen : ((List.range len).map S).length = len := by simp
    have hll : len ≤ 1048576 := by
      have := bulk_len ((List.range len).map D)
      rw [List.length_map, List.length_range] at this
      omega
    refine ⟨(List.range len).map S, ⟨⟨some a, cap, by rw [hlen]; exact hc, ?_⟩, fun s hs => ?_⟩, by rw [hlen]; exact hll⟩
    · by_cases h0 : len = 0
      · left; subst h0; rfl
      · right
        obtain ⟨b, off, spot⟩ := a
        have hz := (hS 0 (by omega)).1
        simp [Addr.add] at hz
        have hspot : spot = none := by simpa using World.cell?_spot hz
        subst hspot
        refine ⟨b, off, rfl, World.block_lt_of_cell? w _ hz, fun i hi => ?_⟩
        rw [hlen] at hi
        have e : ((List.range len).map S).getD i (nilV, []) = S i := by simp [List.getD, hi]
        rw [e]
        have q := (hS i hi).1
        simp only [WideShapes.add_plain] at q
        exact q
    · obtain ⟨i, hi, rfl⟩ := List.mem_map.1 hs
      obtain ⟨_, a3, a4, a5⟩ := hS i (List.mem_range.1 hi)
      exact ⟨a3, fun W hW => a4.below hW, a5⟩
end
end Go.Proofs.Ytlbmcdoldnajoaa

namespace Go.Proofs.Ytlbmcdoldnajoaa
open Go.ChangeShapes Go.WideShapes Go.ChangeAt Go.RowKit Go.Deep
set_option maxRecDepth 100000 in
theorem apartl_lifted (os : Os) (started : os.Started) (H : Type) (enc : TypeId × Value → H) (F : Stop.Interp) :
    ReturnsInHanded {} Try.checked os 10 .any ((Rows.OpenSpec.upto Rows.apartSpec).pre6 enc Try.prog Try.f10 Rows.apartUptoRow.domain false) (((Rows.OpenSpec.upto Rows.apartSpec).at F).post enc Try.prog Try.f10 false true false false) := by
  refine returnsInHanded_of_cond (C := Try.checked) (s := Rows.OpenSpec.upto Rows.apartSpec) (k := Rows.uptoSmall) rfl Try.own started (by kernel_rfl) Try.func10
    (OpenSpec.witness (enc := enc) (C := Try.checked) (s := Rows.OpenSpec.upto Rows.apartSpec) (k := Rows.uptoSmall) rfl false ⟨#[], #[.agg #[.int .i64 1, .int .i64 1, .int .i64 1, .int .i64 1], .slice none 0 0, .slice none 0 0], []⟩ 8 (by kernel_rfl) (by kernel_rfl) (by kernel_rfl)
      (x := ([.agg [.lit (.int .i64 1), .lit (.int .i64 1), .lit (.int .i64 1), .lit (.int .i64 1)], .nil, .nil], [], [])) (by kernel_rfl) rfl (by kernel_rfl)) ?_
  intro W base args ds gs before hval0 hW _ hk _
  have hval : ∀ (j : Nat) t v, Try.f10.params[j]? = some t → args[j]? = some v → Value.okWide Try.prog W .any base t v := hval0
  have hW' := hW
  obtain ⟨p, q, hA0, hV, rfl, hfz, hnd⟩ := hW
  have hA : DataW.TrodAll enc Try.prog W 0 (fun _ => true) true Try.f10.params.toList args.toList ds p := hA0
  rw [Try.params10] at hA hval
  obtain ⟨v0, v1, v2, d0, d1, d2, p0, p1, p2, rfl, rfl, rfl, h0, h1, h2⟩ := trodAll_three hA
  obtain ⟨rfl, rfl⟩ := trodVars_none hV
  have hbulk : Rows.uptoBulkAll [d0, d1, d2] ≤ 1048576 := of_decide_eq_true hk
  obtain ⟨cs, rfl, _⟩ := okWide_struct Try.underlying34 (hval 0 34 v0 rfl rfl)
  obtain ⟨a1, len1, cap1, rfl⟩ := okWide_slice Try.underlying27 (hval 1 27 v1 rfl rfl)
  obtain ⟨a2, len2, cap2, rfl⟩ := okWide_slice Try.underlying37 (hval 2 37 v2 rfl rfl)
  have k0 := h0
  have k1 := h1
  have k2 := h2
  have lt0 : ∀ x ∈ p0, x.block < W.heap.size := by obtain ⟨m, hm⟩ := k0; exact DataW.trod_lt m _ _ _ hm
  have lt2 : ∀ x ∈ p2, x.block < W.heap.size := by obtain ⟨m, hm⟩ := k2; exact DataW.trod_lt m _ _ _ hm
  have lt1 : ∀ x ∈ p1, x.block < W.heap.size := by obtain ⟨m, hm⟩ := k1; exact DataW.trod_lt m _ _ _ hm
  obtain ⟨a, b, c, d, hcs, ha, hb, hc, hd⟩ : ∃ a b c d : Int, cs = #[.int .i64 a, .int .i64 b, .int .i64 c, .int .i64 d] ∧ i64B a ∧ i64B b ∧ i64B c ∧ i64B d := by
    obtain ⟨fuel, hf⟩ := h0
    obtain ⟨a, b, c, d, h1, h2⟩ := open_confB (cs := cs.toList) (by simpa [Value.cells] using hf)
    exact ⟨a, b, c, d, by rw [← Array.toArray_toList (xs := cs), h1], h2⟩
  obtain ⟨S, hS, hl⟩ : ∃ S : List (Value × List Int), JbAt W.heap.size W (.slice a1 len1 cap1) S ∧ S.length ≤ 1048576 := by
    obtain ⟨fuel, hf⟩ := h1
    exact open_jobs (v := .slice a1 len1 cap1) (by simpa [Value.cells] using hf) (by have := bulk_mem (d := d1) (l := [d0, d1, d2]) (by simp); show Rows.uptoBulk d1 ≤ _; omega)
  obtain ⟨ps, hpi, hpv⟩ : ∃ ps : List Int, (∀ y ∈ ps, i64B y) ∧ IntsV W (.slice a2 len2 cap2) ps := by
    obtain ⟨fuel, hf⟩ := h2
    obtain ⟨l, l1, l2, _⟩ := open_one (v := .slice a2 len2 cap2) (by simpa [Value.cells] using hf) (by have := bulk_mem (d := d2) (l := [d0, d1, d2]) (by simp); show Rows.uptoBulk d2 ≤ _; omega)
    exact ⟨l, l1, l2⟩
  clear hA0 hval0
  subst hcs
  refine (apart_walk a b c d W ha hb hc hd hS (by omega) hpv hpi).mono fun e W' ⟨he, bel⟩ => ?_
  subst he
  exact ⟨_, rfl, _, _, _, [], _, [], hW', trodAll_mk1 (shut_bool Try.underlying4 _), trodAll_mk3 (Below.trod Try.laidOut (by kernel_rfl) (of_decide_eq_true (by kernel_rfl)) k0 bel lt0) (Below.trod Try.laidOut (by kernel_rfl) (of_decide_eq_true (by kernel_rfl)) k1 bel lt1) (Below.trod Try.laidOut (by kernel_rfl) (of_decide_eq_true (by kernel_rfl)) k2 bel lt2), rfl, bel.frame _, fun h => by cases h⟩
theorem apart_holds : Rows.ApartUptoSaid :=
  OpenClaim.holds_of_cond 10 Try.f10 rfl rfl rfl rfl rfl rfl rfl ⟨rfl, rfl, rfl, rfl, rfl⟩ rfl rfl rfl rfl rfl (by kernel_rfl) Try.func10 (by kernel_rfl)
    (of_decide_eq_true (by kernel_rfl)) (by unfold Func.isWrapper; rw [if_neg (of_decide_eq_false (by kernel_rfl))]; exact ⟨rfl, rfl⟩)
    (fun os started H enc _ F => apartl_lifted os started H enc F)
end Go.Proofs.Ytlbmcdoldnajoaa
