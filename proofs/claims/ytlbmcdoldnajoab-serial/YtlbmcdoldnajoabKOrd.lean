import Derived.Test.YtlbmcdoldnajoabKFunN

namespace Go.Proofs.Ytlbmcdoldnajoab
open Go.RowKit
def sixN (s : Sc) (n : Nat) : Nat := if s.k = 1 then n + 1 else n
def sixO (s : Sc) (l : List Sc) (n : Nat) : List Sc := if s.k = 1 ∧ 6 < n then l else l ++ [s]
def sixA (S : List Sc) : Nat → List Sc × Nat
  | 0 => ([], 0)
  | j + 1 => (sixO (S.getD j sc0) (sixA S j).1 (sixN (S.getD j sc0) (sixA S j).2), sixN (S.getD j sc0) (sixA S j).2)
theorem sixA_le (S : List Sc) : ∀ j, (sixA S j).1.length ≤ j ∧ (sixA S j).2 ≤ j
  | 0 => ⟨Nat.le_refl _, Nat.le_refl _⟩
  | j + 1 => by
    obtain ⟨h1, h2⟩ := sixA_le S j
    simp only [sixA]
    constructor
    · unfold sixO
      split
      · omega
      · rw [List.length_append, List.length_singleton]; omega
    · unfold sixN
      split <;> omega
theorem sixA_mem (S : List Sc) : ∀ j, j ≤ S.length → ∀ s ∈ (sixA S j).1, s ∈ S
  | 0, _, s, hs => by cases hs
  | j + 1, hj, s, hs => by
    simp only [sixA] at hs
    unfold sixO at hs
    split at hs
    · exact sixA_mem S j (by omega) s hs
    · rcases List.mem_append.1 hs with hs | hs
      · exact sixA_mem S j (by omega) s hs
      · rw [List.mem_singleton] at hs
        rw [hs]
        simp [List.getD, show j < S.length by omega]
def scCells : List Sc → List Value
  | [] => []
  | s :: r => .int .i64 s.k :: .int .i64 s.n :: s.lv :: scCells r
theorem scCells_append : ∀ l m : List Sc, scCells (l ++ m) = scCells l ++ scCells m
  | [], _ => rfl
  | s :: r, m => by simp [scCells, scCells_append r m]
theorem scCells_get : ∀ (l : List Sc) (i : Nat), i < l.length → (scCells l)[i * 3]? = some (.int .i64 (l.getD i sc0).k) ∧ (scCells l)[i * 3 + 1]? = some (.int .i64 (l.getD i sc0).n) ∧ (scCells l)[i * 3 + 2]? = some (l.getD i sc0).lv
  | [], _, h => absurd h (Nat.not_lt_zero _)
  | s :: r, 0, _ => ⟨rfl, rfl, rfl⟩
  | s :: r, i + 1, h => by
    have ih := scCells_get r i (by simpa using h)
    simp only [show (i + 1) * 3 = i * 3 + 1 + 1 + 1 by omega, show i * 3 + 1 + 1 + 1 + 1 = (i * 3 + 1) + 1 + 1 + 1 by omega, show i * 3 + 1 + 1 + 1 + 2 = (i * 3 + 2) + 1 + 1 + 1 by omega, scCells, List.getElem?_cons_succ]
    have e : (s :: r).getD (i + 1) sc0 = r.getD i sc0 := by simp [List.getD]
    rw [e]
    exact ih
/-- a script that was made anew -/
theorem scr_own {B C : Nat} {w W : World} {v : Value} {L : List Sc} (h : W.ownsRow C 50 3 v L.length (scCells L)) (hL : ∀ s ∈ L, i64B s.k ∧ i64B s.n ∧ (∀ x ∈ s.xs, i64B x) ∧ (∀ W, Below B w W → IntsV W s.lv s.xs) ∧ ∀ ao n cap, s.lv = .slice ao n cap → n ≤ cap) (hb : Below B w W) (hB : B ≤ W.heap.size) : ScrAt W.heap.size W v L := by
  refine ⟨?_, fun s hs => ?_⟩
  · rcases h.2 with ⟨rfl, h0⟩ | ⟨g, cap, cur, rfl, _, hh, h1, _, h2, h3⟩
    · obtain rfl : L = [] := List.eq_nil_of_length_eq_zero h0
      exact ⟨none, 0, rfl, Or.inl rfl⟩
    · refine ⟨_, cap, rfl, Or.inr ⟨g, 0, rfl, blk_lt hh, fun i hi => ?_⟩⟩
      have hc : ∀ j, j < L.length * 3 → W.cell? ⟨g, 0 + j, none⟩ = (scCells L)[j]? := fun j hj => by
        rw [← h3, List.getElem?_take_of_lt hj]
        simp [World.cell?, hh]
      obtain ⟨c0, c1, c2⟩ := scCells_get L i hi
      refine ⟨(hc (i * 3) (by omega)).trans c0, ?_, ?_⟩
      · have := (hc (i * 3 + 1) (by omega)).trans c1
        rwa [show 0 + (i * 3 + 1) = 0 + i * 3 + 1 by omega] at this
      · have := (hc (i * 3 + 2) (by omega)).trans c2
        rwa [show 0 + (i * 3 + 2) = 0 + i * 3 + 2 by omega] at this
  · obtain ⟨a1, a2, a3, a4, a5⟩ := hL s hs
    exact ⟨a1, a2, a3, fun W' hW' => a4 W' (hb.trans (hW'.mono hB)), a5⟩
theorem Try.infoSc : (Try.prog.info? 50).map (fun i => (i.zero, i.size, i.bytes)) = some (some (.agg #[.int .i64 0, .int .i64 0, .slice none 0 0]), 3, 40) := by kernel_rfl
def SixP (S : List Sc) (w : World) (e : Ending) (w' : World) : Prop := ∃ v, e = .returned v ∧ ScrAt w'.heap.size w' v (sixA S S.length).1 ∧ Below w.heap.size w w'
def SixRel (S : List Sc) (w : World) (j : Nat) (out : Value) (wr : World) : Prop := wr.ownsRow w.heap.size 50 3 out (sixA S j).1.length (scCells (sixA S j).1) ∧ Below w.heap.size w wr
set_option maxRecDepth 100000 in
set_option maxHeartbeats 1000000 in
theorem six_k {S : List Sc} (w : World) {v : Value} (hs : ScrAt w.heap.size w v S) (hN : S.length ≤ 800000000) :
    Calls Try.prog 6 #[v] w fun e w' => SixP S w e w' := by
  have HS : Hid (ScrAt w.heap.size w v S ∧ S.length ≤ 800000000) := ⟨hs, hN⟩
  obtain ⟨⟨ao, cap, hv, _⟩, _⟩ := hs
  obtain ⟨n, hn⟩ : ∃ n, n = S.length := ⟨_, rfl⟩
  rw [← hn] at hv
  subst hv
  have HN : Hid (n = S.length) := hn
  have hn8 : n ≤ 800000000 := by omega
  clear hN hn
  go_enter Try.func6, Try.ntmps6
  go_wp2
  go_loopw [3, 4, 5] (fun out c i wr => ∃ j : Nat, j ≤ n ∧ i = .int .i64 j ∧ c = .int .i64 ((sixA S j).2 : Int) ∧ SixRel S w j out wr) (fun _ _ i _ => n - (intOf i).toNat)
  case atStart => exact ⟨0, Nat.zero_le _, rfl, rfl, World.ownsRow_nil _ _ _ _, Below.refl _ _⟩
  case round =>
    obtain ⟨j, hj, rfl, rfl, hrel⟩ := hrel
    by_cases hlt : j < n
    · have m1 : (j : Int) < (n : Int) := by omega
      have hil : j < S.length := by rw [← HN.out]; exact hlt
      obtain ⟨⟨ao', cap', hv', hcl⟩, hit⟩ := HS.out.1.below hrel.2
      injection hv' with e1 e2 e3
      subst e1 e3
      rcases hcl with hcl | ⟨sb, off, e4, hsl, hcl⟩
      · rw [hcl] at hil; exact absurd hil (Nat.not_lt_zero _)
      subst e4
      obtain ⟨s0, s1, s2⟩ := hcl j hil
      have hform : ∃ ao n cap, (S.getD j sc0).lv = .slice ao n cap := by
        obtain ⟨_, _, _, a4, _⟩ := hit (S.getD j sc0) (by simp [List.getD, hil])
        obtain ⟨ao, cap, e, _⟩ := a4 wr (Below.refl _ _)
        exact ⟨_, _, _, e⟩
      obtain ⟨sla, sln, slc, hslv⟩ := hform
      rw [hslv] at s2
      obtain ⟨sk, hsk⟩ : ∃ sk, sk = (S.getD j sc0).k := ⟨_, rfl⟩
      obtain ⟨sn, hsn⟩ : ∃ sn, sn = (S.getD j sc0).n := ⟨_, rfl⟩
      rw [← hsk] at s0
      rw [← hsn] at s1
      obtain ⟨lo, ho⟩ := owns_form hrel.1
      obtain ⟨hoc, ho⟩ := ho
      obtain ⟨N, hN⟩ : ∃ N, N = (sixA S j).1.length := ⟨_, rfl⟩
      obtain ⟨c, hc⟩ : ∃ c, c = (sixA S j).2 := ⟨_, rfl⟩
      have hcb : c ≤ 800000000 ∧ N ≤ 800000000 := by have := sixA_le S j; omega
      have HR : Hid (SixRel S w j u3 wr ∧ u3 = .slice lo N hoc) := ⟨hrel, by rw [hN]; exact ho⟩
      have HSk : Hid (sk = (S.getD j sc0).k ∧ sn = (S.getD j sc0).n ∧ (S.getD j sc0).lv = .slice sla sln slc ∧ N = (sixA S j).1.length ∧ c = (sixA S j).2) := ⟨hsk, hsn, hslv, hN, hc⟩
      rw [← hN] at ho
      rw [← hc]
      subst ho
      have hwc : IntKind.i64.wrap ((c : Int) + 1) = ((c + 1 : Nat) : Int) := by rw [IntKind.wrap_i64]; omega
      have hsl2 : sb < wr.heap.size := Nat.lt_of_lt_of_le hsl hrel.2.size
      obtain ⟨i0, hi, hz0, hz1, hz2⟩ := info_parts Try.infoSc
      clear hcl hit e2 hil hsk hsn hslv hN hc hrel hsl
      rcases (show (sk = 1 ∧ 6 < c + 1) ∨ (sk = 1 ∧ ¬ 6 < c + 1) ∨ sk ≠ 1 by omega) with ⟨k1, k2⟩ | ⟨k1, k2⟩ | k1
      · subst k1
        have m2 : ¬ ((c + 1 : Nat) : Int) ≤ 6 := by omega
        have HE : Hid (sixA S (j + 1) = ((sixA S j).1, c + 1)) := by
          show sixA S (j + 1) = _
          obtain ⟨q1, _, _, _, q5⟩ := HSk.out
          simp only [sixA, sixO, sixN, ← q1, ← q5, if_pos, k2, and_self]
        go_wp2
        go_roundw
        case rel => exact ⟨j + 1, by omega, by go_num, by rw [HE.out]; simp, by unfold SixRel; rw [HE.out]; exact HR.out.1⟩
        case measure => simp [intOf]; omega
      · subst k1
        have m2 : ((c + 1 : Nat) : Int) ≤ 6 := by omega
        have HE : Hid (sixA S (j + 1) = ((sixA S j).1 ++ [S.getD j sc0], c + 1)) := by
          show sixA S (j + 1) = _
          obtain ⟨q1, _, _, _, q5⟩ := HSk.out
          simp only [sixA, sixO, sixN, ← q1, ← q5, if_pos, k2, and_false, if_false]
        have HO : Hid (wr.ownsRow w.heap.size 50 3 (.slice lo N hoc) N (scCells (sixA S j).1) ∧ Below w.heap.size w wr) := ⟨by have := HR.out.1.1; rw [← HSk.out.2.2.2.1] at this; exact this, HR.out.1.2⟩
        have hszw := HR.out.1.2.size
        go_wp2_with (at_builtin; refine stopL ?_)
        refine ⟨?_⟩
        refine wpList_append_lies _ (by rfl) _ _ 24 (by rfl) w.heap.size 50 i0 _ 3 40 Try.underlying24 hi hz0 hz1 hz2 (by rfl) (by decide) _ _ _ (by rfl) (HO.out.1.alloc _) ⟨wr.heap.size, 0, none⟩ 1 1 [.int .i64 1, .int .i64 sn, .slice sla sln slc] (by rfl) (by rfl) ?_ ?_ (by decide) ?_ ?_ ?_ _ (by rfl) ?_
        · exact World.news_of_block (heap_alloc_new _ _)
        · intro u hu; simp at hu; rcases hu with rfl | rfl | rfl <;> rfl
        · unfold maxLen; omega
        · omega
        · simp; omega
        intro g1 cap1 W3 hown hgrow hat _
        have HE3 : Hid (SixRel S w (j + 1) (.slice (some ⟨g1, 0, none⟩) (N + 1) cap1) W3) := by
          refine ⟨?_, (HO.out.2.alloc hszw _).grown hgrow (by simp; omega) (fun k hk => owns_ge HO.out.1 hk)⟩
          rw [HE.out, scCells_append, List.length_append, ← HSk.out.2.2.2.1]
          have e3 : scCells [S.getD j sc0] = [.int .i64 1, .int .i64 sn, .slice sla sln slc] := by
            obtain ⟨q1, q2, q3, _⟩ := HSk.out
            simp only [scCells, ← q1, ← q2, q3]
          rw [e3]
          exact hown
        clear hown hgrow hat HO
        go_wp2
        go_roundw
        case rel => exact ⟨j + 1, by omega, by go_num, by rw [HE.out]; simp, HE3.out⟩
        case measure => simp [intOf]; omega
      · have HE : Hid (sixA S (j + 1) = ((sixA S j).1 ++ [S.getD j sc0], c)) := by
          show sixA S (j + 1) = _
          obtain ⟨q1, _, _, _, q5⟩ := HSk.out
          simp only [sixA, sixO, sixN, ← q1, ← q5, k1, false_and, if_false]
        have HO : Hid (wr.ownsRow w.heap.size 50 3 (.slice lo N hoc) N (scCells (sixA S j).1) ∧ Below w.heap.size w wr) := ⟨by have := HR.out.1.1; rw [← HSk.out.2.2.2.1] at this; exact this, HR.out.1.2⟩
        have hszw := HR.out.1.2.size
        go_wp2_with (at_builtin; refine stopL ?_)
        refine ⟨?_⟩
        refine wpList_append_lies _ (by rfl) _ _ 24 (by rfl) w.heap.size 50 i0 _ 3 40 Try.underlying24 hi hz0 hz1 hz2 (by rfl) (by decide) _ _ _ (by rfl) (HO.out.1.alloc _) ⟨wr.heap.size, 0, none⟩ 1 1 [.int .i64 sk, .int .i64 sn, .slice sla sln slc] (by rfl) (by rfl) ?_ ?_ (by decide) ?_ ?_ ?_ _ (by rfl) ?_
        · exact World.news_of_block (heap_alloc_new _ _)
        · intro u hu; simp at hu; rcases hu with rfl | rfl | rfl <;> rfl
        · unfold maxLen; omega
        · omega
        · simp; omega
        intro g1 cap1 W3 hown hgrow hat _
        have HE3 : Hid (SixRel S w (j + 1) (.slice (some ⟨g1, 0, none⟩) (N + 1) cap1) W3) := by
          refine ⟨?_, (HO.out.2.alloc hszw _).grown hgrow (by simp; omega) (fun k hk => owns_ge HO.out.1 hk)⟩
          rw [HE.out, scCells_append, List.length_append, ← HSk.out.2.2.2.1]
          have e3 : scCells [S.getD j sc0] = [.int .i64 sk, .int .i64 sn, .slice sla sln slc] := by
            obtain ⟨q1, q2, q3, _⟩ := HSk.out
            simp only [scCells, ← q1, ← q2, q3]
          rw [e3]
          exact hown
        clear hown hgrow hat HO
        go_wp2
        go_roundw
        case rel => exact ⟨j + 1, by omega, by go_num, by rw [HE.out], HE3.out⟩
        case measure => simp [intOf]; omega
    · obtain rfl : j = n := by omega
      have HE : Hid (SixP S w (.returned u3) wr) := ⟨_, rfl, scr_own (B := w.heap.size) (w := w) (by rw [← HN.out]; exact hrel.1) (fun s hs => HS.out.1.2 s (sixA_mem S _ (Nat.le_refl _) s (by rw [← HN.out] at hs ⊢; exact hs))) hrel.2 hrel.2.size, hrel.2⟩
      clear hrel
      go_wp2
      go_ret
      exact HE.out
end Go.Proofs.Ytlbmcdoldnajoab

namespace Go.Proofs.Ytlbmcdoldnajoab
open Go.RowKit
/-- numbers are appended, also none -/
theorem wpList_app_ints {w : World} {ops : Array Oper} {rest : List Oper} {o : Oper} {a : Act} {Q : Exit → Act → World → Prop} (hgd : o.guard = none) (s x : Operand)
    (ho : o.op = .call { callee := .builtin .append, args := #[s, x], argTypes := #[32, 32] }) (base : Nat) (v : Value) (n : Nat) (xs : List Value) (hs : a.eval s = v) (hown : w.ownsRow base 3 1 v n xs)
    (ad : Addr) (m c : Nat) (news : List Value) (hx : a.eval x = .slice (some ad) m c) (hl : news.length = m * 1) (hnews : ∀ j u, news[j]? = some u → w.cell? (ad.add j) = some u) (h1 : ∀ u ∈ news, u.oneCell' = true)
    (h63 : n + m ≤ maxLen) (hbytes : (n + m) * 8 ≤ 140737488355328) (hbase : base ≤ w.heap.size)
    (h : ∀ v' w', w'.ownsRow base 3 1 v' (n + m) (xs ++ news) → w.grownBy w' v.ownBlock → wpList Try.prog ops Q rest (a.put o.dst v') w') : wpList Try.prog ops Q (o :: rest) a w := by
  obtain ⟨i0, hi, hz0, hz1, hz2⟩ := info_parts Try.infoInt
  refine wpList_plain hgd fun K hK => ?_
  obtain ⟨v', w', hr, h2, h3, _⟩ := run_append_own_at (P := Try.prog) w base 32 o.type 3 i0 _ 1 8 Try.underlying32 hi hz0 hz1 hz2 rfl (by decide) v n xs hown ad m c news hl hnews h1 h63 hbytes hbase
  unfold Oper.wp execOp
  simp only [ho, resolve, invoke, builtin, Sem.run_bind, Sem.run_pure, Result.andThen_ok, List.map_toArray, List.map_cons, List.map_nil, hs, hx, hr]
  exact hK _ _ (h v' w' h2 h3)
/-- what a Run tells is short -/
theorem runTold_few {l : List St} {ml : List (Int × Int)} {fu : Nat} (hf : fu ≤ 200) : (runTold l ml fu).length ≤ 1000 := by
  unfold runTold
  split
  · have h1 := play_told l (vIn ml) fu mo0
    have h2 : mo0.told.length = 0 := rfl
    unfold runMo
    rw [Int.toNat_natCast]
    omega
  · exact Nat.zero_le _
section
variable {o1 : Nat → Option Nat} {rb : Nat} {R : RM} {v1 : KV}
/-- what is asked of ordered at lists of length q -/
def OrdOK (o1 : Nat → Option Nat) (rb : Nat) (R : RM) (v1 : KV) (q : Nat) : Prop := ∀ (l : List Nat) (ml : List (Int × Int)) (lv mv : Value) (W : World), l.length = q → KP o1 W rb R v1 → (∀ x ∈ l, R.d.Has x) → IntsV W lv (l.map fun x : Nat => (x : Int)) → (∀ ao n cap, lv = .slice ao n cap → n ≤ cap) → PairsV W W.heap.size mv ml →
    Calls Try.prog 7 #[ptrV rb, lv, mv] W fun e w' => e = .returned (.bool (R.ordB q l ml)) ∧ Below W.heap.size W w'
set_option maxRecDepth 100000 in
set_option maxHeartbeats 1000000 in
theorem ordered_0 : OrdOK o1 rb R v1 0 := by
  intro l ml lv mv W hl hkp _ hlv _ hmv
  obtain rfl : l = [] := List.eq_nil_of_length_eq_zero hl
  obtain ⟨la, lc, hle, _⟩ := hlv
  have hle : lv = .slice la 0 lc := hle
  subst hle
  have HM : Hid (PairsV W W.heap.size mv ml) := hmv
  obtain ⟨ma, mc, hme, _⟩ := hmv
  obtain ⟨mn, hmn⟩ : ∃ mn, mn = ml.length := ⟨_, rfl⟩
  rw [← hmn] at hme
  subst hme
  have c0 : W.cell? ⟨rb, 0, none⟩ = some (.pointer (some ⟨R.xb, 0, none⟩)) := hkp.cell 0
  have hMp := kitP.map (fun k => o1 k = some 4) W R.xb R.d (hkp.desk nX)
  unfold ptrV at *
  have e0 : R.ordB 0 [] ml = decide (ml = listOf (mapF R.d.goods)) := rfl
  rw [e0]
  clear e0 hl hmn hkp
  go_enter Try.func7, Try.ntmps7
  go_wp2_with fail
  refine hMp.mono ?_
  clear hMp c0
  rintro e W7 ⟨av, rfl, harow, hb7⟩
  have hal := listOf_len (mapF R.d.goods)
  obtain ⟨al, hale⟩ : ∃ al, al = listOf (mapF R.d.goods) := ⟨_, rfl⟩
  have HAl : Hid (al = listOf (mapF R.d.goods)) := hale
  rw [← hale] at harow hal
  have HW7 : Hid (PairsV W7 W7.heap.size (.slice ma mn mc) ml ∧ PairsV W7 W7.heap.size av al ∧ Below W.heap.size W W7) := ⟨PairsV.wide (HM.out.below hb7 (Nat.le_refl _)) hb7.size, pairsV_own harow (by omega), hb7⟩
  obtain ⟨ava, avc, rfl⟩ := owns_form harow
  obtain ⟨an, han⟩ : ∃ an, an = al.length := ⟨_, rfl⟩
  rw [← han] at HW7 ⊢
  clear harow hb7 HM han hale hal
  go_wp2_with fail
  refine (pivotkeep_samePairs_any _ _ _ _ ml al W7 HW7.out.1 HW7.out.2.1).mono ?_
  rintro e V3 ⟨rfl, hb⟩
  have HE : Hid (Below W.heap.size W V3) := HW7.out.2.2.trans (hb.mono HW7.out.2.2.size)
  clear hb HW7
  go_wp2
  go_ret
  exact ⟨by rw [HAl.out]; rfl, HE.out⟩
/-- behind the Poll -/
structure OrX (o1 : Nat → Option Nat) (rb : Nat) (R : RM) (v1 : KV) (W0 : World) (ob : Nat) (st tr : Int) (tv : Value) (tl : List Int) (X : World) : Prop where
  kp : KP o1 X rb R v1
  bel : Below W0.heap.size W0 X
  box : X.heap[ob]? = some (.cells #[.int .i64 st, tv, .int .i64 tr] 37 (0, 0))
  told : X.ownsRow 0 3 1 tv tl.length (tl.map (Value.int .i64))
theorem OrX.below {W0 : World} {ob : Nat} {st tr : Int} {tv : Value} {tl : List Int} {X Y : World} (h : OrX o1 rb R v1 W0 ob st tr tv tl X) (hb : Below X.heap.size X Y) : OrX o1 rb R v1 W0 ob st tr tv tl Y :=
  ⟨h.kp.below hb, h.bel.trans (hb.mono h.bel.size), (hb.block _ (blk_lt h.box)).trans h.box, owns_keep h.told hb⟩
/-- behind the Run, however the box of its outcome came -/
def OrC (o1 : Nat → Option Nat) (rb : Nat) (R : RM) (v1 : KV) (W0 : World) (ob : Nat) (st tr : Int) (tv : Value) (tl : List Int) (s2 t2 f2 : Int) (tl2 : List Int) (L an : Nat) (nl : List (Int × Int)) (x y z : Value) (wx : World) : Prop :=
  ∃ pb ta tc aa ac, x = .pointer (some ⟨pb, 0, none⟩) ∧ y = .slice aa an ac ∧ z = .int .i64 f2 ∧ OrX o1 rb R v1 W0 ob st tr tv tl wx ∧ wx.heap[pb]? = some (.cells #[.int .i64 s2, .slice ta L tc, .int .i64 t2] 37 (0, 0)) ∧ wx.ownsRow 0 3 1 (.slice ta L tc) tl2.length (tl2.map (Value.int .i64)) ∧ PairsV wx wx.heap.size (.slice aa an ac) nl
def OrY (Y : World) (s2 t2 f2 : Int) (tl2 : List Int) (L an : Nat) (nl : List (Int × Int)) (e : Ending) (w' : World) : Prop :=
  ∃ ta tc aa ac, e = .returned (.tuple #[.agg #[.int .i64 s2, .slice ta L tc, .int .i64 t2], .slice aa an ac, .int .i64 f2]) ∧ w'.ownsRow Y.heap.size 3 1 (.slice ta L tc) tl2.length (tl2.map (Value.int .i64)) ∧ w'.ownsRow Y.heap.size 46 2 (.slice aa an ac) nl.length (prCells nl) ∧ Below Y.heap.size Y w'
def OrV (Y : World) (ta : Option Addr) (tc : Nat) (aa : Option Addr) (ac : Nat) (tl : List Int) (L an : Nat) (nl : List (Int × Int)) (w' : World) : Prop :=
  w'.ownsRow Y.heap.size 3 1 (.slice ta L tc) tl.length (tl.map (Value.int .i64)) ∧ w'.ownsRow Y.heap.size 46 2 (.slice aa an ac) nl.length (prCells nl) ∧ Below Y.heap.size Y w'
theorem orA {W0 X W : World} {ob : Nat} {st tr s2 t2 f2 : Int} {tv : Value} {tl tl2 : List Int} {L an : Nat} {nl : List (Int × Int)} {ta aa : Option Addr} {tc ac : Nat} (hX : OrX o1 rb R v1 W0 ob st tr tv tl X) (hn : nl.length ≤ 16) (h : OrV X.drew ta tc aa ac tl2 L an nl W) :
    OrC o1 rb R v1 W0 ob st tr tv tl s2 t2 f2 tl2 L an nl (.pointer (some ⟨W.heap.size, 0, none⟩)) (.slice aa an ac) (.int .i64 f2) (W.alloc (.cells #[.int .i64 s2, .slice ta L tc, .int .i64 t2] 37)) := by
  obtain ⟨h1, h2, h3⟩ := h
  have hb : Below X.heap.size X W := ((Below.refl _ X).drew).trans h3
  have hba : Below W.heap.size W (W.alloc (.cells #[.int .i64 s2, .slice ta L tc, .int .i64 t2] 37)) := (Below.refl _ _).alloc (Nat.le_refl _) _
  exact ⟨_, ta, tc, aa, ac, rfl, rfl, rfl, (hX.below hb).below hba, heap_alloc_new _ _, owns_keep (owns_base h1 (Nat.zero_le _)) hba, (pairsV_own h2 (by omega)).grow hba⟩
theorem orB {W0 X W : World} {ob : Nat} {st tr s2 t2 f2 : Int} {tv : Value} {tl tl2 : List Int} {L an : Nat} {nl : List (Int × Int)} {ta aa : Option Addr} {tc ac : Nat} (hX : OrX o1 rb R v1 W0 ob st tr tv tl X) (hn : nl.length ≤ 16) (h : OrV (X.alloc outO).drew ta tc aa ac tl2 L an nl W) :
    OrC o1 rb R v1 W0 ob st tr tv tl s2 t2 f2 tl2 L an nl (.pointer (some ⟨X.heap.size, 0, none⟩)) (.slice aa an ac) (.int .i64 f2) (((W.setCell ⟨X.heap.size, 0, none⟩ (.int .i64 s2)).setCell ⟨X.heap.size, 1, none⟩ (.slice ta L tc)).setCell ⟨X.heap.size, 2, none⟩ (.int .i64 t2)) := by
  obtain ⟨h1, h2, h3⟩ := h
  have hsz : (X.alloc outO).drew.heap.size = X.heap.size + 1 := by show (X.alloc _).heap.size = _; simp
  have hbox : W.heap[X.heap.size]? = some (.cells #[.int .i64 0, .slice none 0 0, .int .i64 0] 37 (0, 0)) := (h3.block X.heap.size (by omega)).trans (box_out X)
  have hb : Below X.heap.size X W := (((Below.refl _ X).alloc (Nat.le_refl _) _).drew).trans (h3.mono (by omega))
  have hb3 : Below X.heap.size X (((W.setCell ⟨X.heap.size, 0, none⟩ (.int .i64 s2)).setCell ⟨X.heap.size, 1, none⟩ (.slice ta L tc)).setCell ⟨X.heap.size, 2, none⟩ (.int .i64 t2)) := ((hb.setCell (Nat.le_refl _) _).setCell (Nat.le_refl _) _).setCell (Nat.le_refl _) _
  have hsame : ∀ g, X.heap.size + 1 ≤ g → (((W.setCell ⟨X.heap.size, 0, none⟩ (.int .i64 s2)).setCell ⟨X.heap.size, 1, none⟩ (.slice ta L tc)).setCell ⟨X.heap.size, 2, none⟩ (.int .i64 t2)).heap[g]? = W.heap[g]? := fun g hg => by
    rw [Below.heap_setCell _ _ _ _ (by show g ≠ X.heap.size; omega), Below.heap_setCell _ _ _ _ (by show g ≠ X.heap.size; omega), Below.heap_setCell _ _ _ _ (by show g ≠ X.heap.size; omega)]
  refine ⟨_, ta, tc, aa, ac, rfl, rfl, rfl, hX.below hb3, set3_out hbox, owns_base (keeps_of_block h1 (fun g hg => hsame g (by have := owns_ge h1 hg; omega))) (Nat.zero_le _), pairsV_own (keeps_of_block h2 (fun g hg => hsame g (by have := owns_ge h2 hg; omega))) (by omega)⟩
/-- does the job at i go first, and the others behind it? -/
def OrT (R : RM) (l : List Nat) (ml : List (Int × Int)) (q i : Nat) : Bool := R.sameB (l.getD i 0) ml && R.ordB q (l.eraseIdx i) (runMap (R.tk (l.getD i 0)).steps ml R.c.fuel)
theorem ord_some {l : List Nat} {ml : List (Int × Int)} {q i : Nat} (hi : i < l.length) (h : OrT R l ml q i = true) : R.ordB (q + 1) l ml = true := by
  show ((List.range l.length).any fun i => _) = true
  rw [List.any_eq_true]
  exact ⟨i, List.mem_range.2 hi, h⟩
theorem ord_none {l : List Nat} {ml : List (Int × Int)} {q : Nat} (h : ∀ i, i < l.length → OrT R l ml q i = false) : R.ordB (q + 1) l ml = false := by
  show ((List.range l.length).any fun i => _) = false
  rw [List.any_eq_false]
  intro i hi
  rw [Bool.not_eq_true]
  exact h i (List.mem_range.1 hi)
theorem ints_part {W : World} {b off : Nat} {l : List Nat} (h : ∀ i, i < l.length → W.cell? ⟨b, off + i, none⟩ = some (.int .i64 ((l.getD i 0 : Nat) : Int))) (k m : Nat) (hkm : k + m ≤ l.length) :
    ∀ j u, (((l.drop k).take m).map fun x : Nat => Value.int .i64 (x : Int))[j]? = some u → W.cell? ((⟨b, off + k, none⟩ : Addr).add j) = some u := fun j u hu => by
  rw [List.getElem?_map] at hu
  have hj : j < m := by
    refine Classical.byContradiction fun hc => ?_
    rw [List.getElem?_eq_none (by rw [List.length_take]; omega)] at hu
    cases hu
  rw [List.getElem?_take_of_lt hj, List.getElem?_drop, List.getElem?_eq_getElem (by omega)] at hu
  simp only [Option.map_some] at hu
  have := h (k + j) (by omega)
  rw [WideShapes.add_plain, show off + k + j = off + (k + j) by omega, this, ← hu]
  simp [List.getD, show k + j < l.length by omega]
theorem owns_room {w : World} {B : Nat} {e : TypeId} {s : Nat} {v : Value} {n : Nat} {xs : List Value} (h : w.ownsRow B e s v n xs) : ∀ ao m cap, v = .slice ao m cap → m ≤ cap := fun ao m cap hv => by
  rcases h.2 with ⟨rfl, _⟩ | ⟨g, cp, cur, rfl, _, _, h1, _⟩
  · injection hv with _ e2 e3
    omega
  · injection hv with _ e2 e3
    omega
theorem ints_rest {Y : World} {B : Nat} {r : Value} {l : List Nat} {n i : Nat} (hn : n = l.length) (hi : i < n) (hb : n ≤ 900000001) (h : Y.ownsRow B 3 1 r (i + (n - (i + 1))) ((((l.drop 0).take i).map fun x : Nat => Value.int .i64 (x : Int)) ++ (((l.drop (i + 1)).take (n - (i + 1))).map fun x : Nat => Value.int .i64 (x : Int)))) :
    IntsV Y r ((l.eraseIdx i).map fun x : Nat => (x : Int)) ∧ ∀ ao m cap, r = .slice ao m cap → m ≤ cap := by
  have e : l.eraseIdx i = (l.drop 0).take i ++ (l.drop (i + 1)).take (n - (i + 1)) := by
    rw [List.eraseIdx_eq_take_drop_succ, List.drop_zero, List.take_of_length_le (l := l.drop (i + 1)) (by rw [List.length_drop]; omega)]
  have hl : (l.eraseIdx i).length = i + (n - (i + 1)) := by rw [List.length_eraseIdx_of_lt (by omega)]; omega
  refine ⟨intsV_own (B := B) ?_ (by rw [List.length_map, hl]; omega), owns_room h⟩
  rw [List.length_map, hl, e, List.map_map, List.map_append]
  exact h
end
end Go.Proofs.Ytlbmcdoldnajoab
