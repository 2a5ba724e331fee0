import Derived.Test.YtlbmcdoldnajoaaGreatFrame
import Derived.Deep.QuietTactic
import Derived.BigQuiet
import Derived.Test.YtlbmcdoldnajoaaGreatOk
import Derived.Deep.AppendLies
import Derived.ArgAppend
set_option maxRecDepth 100000
set_option maxHeartbeats 1000000
namespace Go.Proofs.YtlbmcdoldnajoaaGreat
open Go.RowKit
def IntsV (w : World) (v : Value) (l : List Int) : Prop := ∃ ao cap, v = .slice ao l.length cap ∧ l.length ≤ 140737488351232 ∧ (l = [] ∨ ∃ b off, ao = some ⟨b, off, none⟩ ∧ b < w.heap.size ∧ ∀ i, i < l.length → w.cell? ⟨b, off + i, none⟩ = some (.int .i64 (l.getD i 0)))
theorem IntsV.below {w w' : World} {v : Value} {l : List Int} (h : IntsV w v l) (hb : Below w.heap.size w w') : IntsV w' v l := by
  obtain ⟨ao, cap, rfl, hm, h⟩ := h
  refine ⟨ao, cap, rfl, hm, ?_⟩
  rcases h with h | ⟨b, off, h1, h2, h3⟩
  · exact Or.inl h
  · exact Or.inr ⟨b, off, h1, Nat.lt_of_lt_of_le h2 hb.size, fun i hi => (hb.cell (p := ⟨b, _, none⟩) h2).trans (h3 i hi)⟩
theorem ext_getD {α : Type} {a b : List α} (d : α) (hl : a.length = b.length) (h : ∀ i, i < a.length → a.getD i d = b.getD i d) : a = b := by
  apply List.ext_getElem hl
  intro i h1 h2
  have := h i h1
  simpa [List.getD, h1, h2] using this
theorem ne_getD {α : Type} {a b : List α} (d : α) {i : Nat} (h : a.getD i d ≠ b.getD i d) : a ≠ b := fun e => h (by rw [e])
theorem pivotlaw_sameInts_len (ao bo : Option Addr) (n k ca cb : Nat) (w : World) (h : n ≠ k) :
    Calls Tryz.prog 56 #[.slice ao n ca, .slice bo k cb] w fun e w' => e = .returned (.bool false) ∧ w' = w := by
  have h1 : ((n : Int) == (k : Int)) = false := by simp; omega
  have h2 : ((n : Int) != (k : Int)) = true := by simp; omega
  go_enter Tryz.func56, Tryz.ntmps56
  go_wp2
  go_ret
  exact ⟨rfl, rfl⟩
theorem pivotlaw_sameInts_at (b off ca g og cb n : Nat) (x y : List Int) (w : World) (hn : n = x.length) (hy : n = y.length) (hm : n ≤ 140737488351232)
    (hx : ∀ i, i < x.length → w.cell? ⟨b, off + i, none⟩ = some (.int .i64 (x.getD i 0))) (hz : ∀ i, i < y.length → w.cell? ⟨g, og + i, none⟩ = some (.int .i64 (y.getD i 0))) :
    Calls Tryz.prog 56 #[.slice (some ⟨b, off, none⟩) n ca, .slice (some ⟨g, og, none⟩) n cb] w fun e w' => e = .returned (.bool (decide (x = y))) ∧ Below w.heap.size w w' := by
  have HX : Hid (n = x.length) := hn
  have HY : Hid (n = y.length) := hy
  clear hn hy
  go_enter Tryz.func56, Tryz.ntmps56
  go_wp2
  go_loopw [5] (fun i wr => ∃ j d : Nat, j ≤ n ∧ i = .int .i64 j ∧ (∀ t, t < j → x.getD t 0 = y.getD t 0) ∧ wr = w.drewN d) (fun i _ => n - (intOf i).toNat)
  case atStart => exact ⟨0, 0, Nat.zero_le _, rfl, fun t ht => absurd ht (Nat.not_lt_zero _), rfl⟩
  case round =>
    obtain ⟨j, d, hj, rfl, hall, rfl⟩ := hrel
    have HA : Hid (∀ t, t < j → x.getD t 0 = y.getD t 0) := hall
    clear hall
    by_cases hlt : j < n
    · have c0 := hx j (by rw [← HX.out]; exact hlt)
      have c1 := hz j (by rw [← HY.out]; exact hlt)
      obtain ⟨p, hp⟩ : ∃ p, p = x.getD j 0 := ⟨_, rfl⟩
      obtain ⟨q, hq⟩ : ∃ q, q = y.getD j 0 := ⟨_, rfl⟩
      rw [← hp] at c0
      rw [← hq] at c1
      have HP : Hid (p = x.getD j 0) := hp
      have HQ : Hid (q = y.getD j 0) := hq
      clear hp hq
      have m1 : (0 : Int) ≤ (j : Int) := by omega
      have m2 : (j : Int) < (n : Int) := by omega
      go_wp2
      go_quiet (fail)
      by_cases hpq : p = q
      · go_wp2
        go_roundw
        case rel =>
          refine ⟨j + 1, d + nq, by omega, by go_num, fun t ht => ?_, rfl⟩
          by_cases htj : t = j
          · subst htj; rw [← HP.out, ← HQ.out]; exact hpq
          · exact HA.out t (by omega)
        case measure => simp [intOf]; omega
      · go_wp2
        go_ret
        exact ⟨ret_bool (decide_eq_false (ne_getD 0 (by rw [← HP.out, ← HQ.out]; exact hpq))).symm, below_drewN (below_drewN (Below.refl _ _) _) _⟩
    · go_wp2
      go_ret
      exact ⟨ret_bool (decide_eq_true (ext_getD 0 (HX.out.symm.trans HY.out) (fun i hi => HA.out i (by have := HX.out; omega)))).symm, below_drewN (Below.refl _ _) _⟩
theorem pivotlaw_sameInts_nil (ao bo : Option Addr) (ca cb : Nat) (w : World) :
    Calls Tryz.prog 56 #[.slice ao 0 ca, .slice bo 0 cb] w fun e w' => e = .returned (.bool true) ∧ w' = w := by
  go_enter Tryz.func56, Tryz.ntmps56
  go_wp2
  go_loop [5] (fun i => i = .int .i64 0) (fun _ => 0)
  case atStart => rfl
  case round =>
    subst hrel
    go_wp2
    go_ret
    exact ⟨rfl, rfl⟩
theorem pivotlaw_sameInts_any (a b : Value) (x y : List Int) (w : World) (ha : IntsV w a x) (hb : IntsV w b y) :
    Calls Tryz.prog 56 #[a, b] w fun e w' => e = .returned (.bool (decide (x = y))) ∧ Below w.heap.size w w' := by
  obtain ⟨ao, ca, rfl, hma, ha⟩ := ha
  obtain ⟨bo, cb, rfl, hmb, hb⟩ := hb
  by_cases hl : x.length = y.length
  · rcases ha with rfl | ⟨b1, o1, rfl, _, h1⟩
    · have : y = [] := List.eq_nil_of_length_eq_zero (by simpa using hl.symm)
      subst this
      exact (pivotlaw_sameInts_nil ao bo ca cb w).mono fun e w' ⟨he, hw⟩ => by subst hw; exact ⟨he, Below.refl _ _⟩
    · rcases hb with rfl | ⟨b2, o2, rfl, _, h2⟩
      · have : x = [] := List.eq_nil_of_length_eq_zero (by simpa using hl)
        subst this
        exact (pivotlaw_sameInts_nil _ bo ca cb w).mono fun e w' ⟨he, hw⟩ => by subst hw; exact ⟨he, Below.refl _ _⟩
      · rw [← hl]
        exact pivotlaw_sameInts_at b1 o1 ca b2 o2 cb _ x y w rfl hl hma h1 h2
  · exact (pivotlaw_sameInts_len ao bo _ _ ca cb w hl).mono fun e w' ⟨he, hw⟩ => by
      subst hw
      exact ⟨he.trans (ret_bool (decide_eq_false (fun e => hl (by rw [e]))).symm), Below.refl _ _⟩
theorem pivotlaw_samePairs_len (ao bo : Option Addr) (n k ca cb : Nat) (w : World) (h : n ≠ k) :
    Calls Tryz.prog 30 #[.slice ao n ca, .slice bo k cb] w fun e w' => e = .returned (.bool false) ∧ w' = w := by
  have h1 : ((n : Int) == (k : Int)) = false := by simp; omega
  have h2 : ((n : Int) != (k : Int)) = true := by simp; omega
  go_enter Tryz.func30, Tryz.ntmps30
  go_wp2
  go_ret
  exact ⟨rfl, rfl⟩
theorem pivotlaw_samePairs_at (b off ca g og cb n : Nat) (x y : List (Int × Int)) (w : World) (hn : n = x.length) (hy : n = y.length) (hm : n ≤ 140737488351232) (hx : PairsAt w b off x) (hz : PairsAt w g og y) :
    Calls Tryz.prog 30 #[.slice (some ⟨b, off, none⟩) n ca, .slice (some ⟨g, og, none⟩) n cb] w fun e w' => e = .returned (.bool (decide (x = y))) ∧ Below w.heap.size w w' := by
  have HX : Hid (n = x.length) := hn
  have HY : Hid (n = y.length) := hy
  have HPx : Hid (PairsAt w b off x) := hx
  have HPy : Hid (PairsAt w g og y) := hz
  clear hn hy hx hz
  go_enter Tryz.func30, Tryz.ntmps30
  go_wp2
  go_loopw [5] (fun i wr => ∃ j d : Nat, j ≤ n ∧ i = .int .i64 j ∧ (∀ t, t < j → x.getD t pz = y.getD t pz) ∧ wr = w.drewN d) (fun i _ => n - (intOf i).toNat)
  case atStart => exact ⟨0, 0, Nat.zero_le _, rfl, fun t ht => absurd ht (Nat.not_lt_zero _), rfl⟩
  case round =>
    obtain ⟨j, d, hj, rfl, hall, rfl⟩ := hrel
    have HA : Hid (∀ t, t < j → x.getD t pz = y.getD t pz) := hall
    clear hall
    by_cases hlt : j < n
    · obtain ⟨c0, c1⟩ := HPx.out j (by rw [← HX.out]; exact hlt)
      obtain ⟨e0, e1⟩ := HPy.out j (by rw [← HY.out]; exact hlt)
      obtain ⟨p, hp⟩ : ∃ p, p = x.getD j pz := ⟨_, rfl⟩
      obtain ⟨q, hq⟩ : ∃ q, q = y.getD j pz := ⟨_, rfl⟩
      rw [← hp] at c0 c1
      rw [← hq] at e0 e1
      have HP : Hid (p = x.getD j pz) := hp
      have HQ : Hid (q = y.getD j pz) := hq
      clear hp hq
      obtain ⟨p1, p2⟩ := p
      obtain ⟨q1, q2⟩ := q
      simp only at c0 c1 e0 e1
      have m1 : (0 : Int) ≤ (j : Int) := by omega
      have m2 : (j : Int) < (n : Int) := by omega
      have hne : Hid (¬ (p1 = q1 ∧ p2 = q2) → Ending.returned (.bool false) = .returned (.bool (decide (x = y)))) := fun hpq =>
        ret_bool (decide_eq_false (ne_getD pz (by rw [← HP.out, ← HQ.out]; intro e; injection e with e1 e2; exact hpq ⟨e1, e2⟩))).symm
      by_cases h1 : p1 = q1
      · by_cases h2 : p2 = q2
        · subst h1 h2
          go_wp2
          go_quiet (fail)
          go_wp2
          go_roundw
          case rel =>
            refine ⟨j + 1, d + nq, by omega, by go_num, fun t ht => ?_, rfl⟩
            by_cases htj : t = j
            · subst htj; rw [← HP.out, ← HQ.out]
            · exact HA.out t (by omega)
          case measure => simp [intOf]; omega
        · subst h1
          have hb2 : (p2 == q2) = false := by simpa using h2
          go_wp2
          go_quiet (fail)
          go_wp2
          go_ret
          exact ⟨hne.out (fun h => h2 h.2), below_drewN (below_drewN (Below.refl _ _) _) _⟩
      · have hb1 : (p1 == q1) = false := by simpa using h1
        go_wp2
        go_quiet (fail)
        go_wp2
        go_ret
        exact ⟨hne.out (fun h => h1 h.1), below_drewN (below_drewN (Below.refl _ _) _) _⟩
    · go_wp2
      go_ret
      exact ⟨ret_bool (decide_eq_true (ext_getD pz (HX.out.symm.trans HY.out) (fun i hi => HA.out i (by have := HX.out; omega)))).symm, below_drewN (Below.refl _ _) _⟩
theorem pivotlaw_samePairs_nil (ao bo : Option Addr) (ca cb : Nat) (w : World) :
    Calls Tryz.prog 30 #[.slice ao 0 ca, .slice bo 0 cb] w fun e w' => e = .returned (.bool true) ∧ w' = w := by
  go_enter Tryz.func30, Tryz.ntmps30
  go_wp2
  go_loop [5] (fun i => i = .int .i64 0) (fun _ => 0)
  case atStart => rfl
  case round =>
    subst hrel
    go_wp2
    go_ret
    exact ⟨rfl, rfl⟩
theorem pivotlaw_samePairs_any (a b : Value) (B C : Nat) (x y : List (Int × Int)) (w : World) (ha : PairsV w B a x) (hb : PairsV w C b y) :
    Calls Tryz.prog 30 #[a, b] w fun e w' => e = .returned (.bool (decide (x = y))) ∧ Below w.heap.size w w' := by
  obtain ⟨ao, ca, rfl, hma, ha⟩ := ha
  obtain ⟨bo, cb, rfl, hmb, hb⟩ := hb
  by_cases hl : x.length = y.length
  · rcases ha with rfl | ⟨b1, o1, rfl, _, h1⟩
    · have : y = [] := List.eq_nil_of_length_eq_zero (by simpa using hl.symm)
      subst this
      exact (pivotlaw_samePairs_nil ao bo ca cb w).mono fun e w' ⟨he, hw⟩ => by subst hw; exact ⟨he, Below.refl _ _⟩
    · rcases hb with rfl | ⟨b2, o2, rfl, _, h2⟩
      · have : x = [] := List.eq_nil_of_length_eq_zero (by simpa using hl)
        subst this
        exact (pivotlaw_samePairs_nil _ bo ca cb w).mono fun e w' ⟨he, hw⟩ => by subst hw; exact ⟨he, Below.refl _ _⟩
      · rw [← hl]
        exact pivotlaw_samePairs_at b1 o1 ca b2 o2 cb _ x y w rfl hl hma h1 h2
  · exact (pivotlaw_samePairs_len ao bo _ _ ca cb w hl).mono fun e w' ⟨he, hw⟩ => by
      subst hw
      exact ⟨he.trans (ret_bool (decide_eq_false (fun e => hl (by rw [e]))).symm), Below.refl _ _⟩
theorem mark_any (n : Int) (w : World) (h0 : 0 ≤ n + 1) (h1 : n ≤ 1000000000000000000) :
    Calls Tryz.prog 17 #[.int .i64 n] w fun e w' => e = .returned (.int .i64 (-1000 - n)) ∧ w' = w := by
  go_enter Tryz.func17, Tryz.ntmps17
  go_wp2
  go_ret
  exact ⟨rfl, rfl⟩
theorem badPair_any (n : Int) (w : World) (h0 : 0 ≤ n + 1) (h1 : n ≤ 1000000000000000000) :
    Calls Tryz.prog 18 #[.int .i64 n] w fun e w' => e = .returned (.agg #[.int .i64 (-1000 - n), .int .i64 (-1)]) ∧ w' = w.alloc (.cells #[.int .i64 (-1000 - n), .int .i64 (-1)] 58) := by
  go_enter Tryz.func18, Tryz.ntmps18
  go_wp2_with (go_at_call 17; refine (mark_any n _ h0 h1).mono ?_; rintro e wv ⟨rfl, rfl⟩)
  exact bodyPost_ret (v := .agg #[.int .i64 (-1000 - n), .int .i64 (-1)]) (by simp [results, Tryz.results18, go_sem]) rfl ⟨rfl, rfl⟩
theorem boxes2 {w W : World} {a b c d e f : Value} {t : TypeId} (hb : Below ((w.alloc (.cells #[a, b, c] t)).alloc (.cells #[d, e, f] t)).heap.size ((w.alloc (.cells #[a, b, c] t)).alloc (.cells #[d, e, f] t)) W) :
    W.cell? ⟨w.heap.size, 0, none⟩ = some a ∧ W.cell? ⟨w.heap.size, 2, none⟩ = some c ∧ W.cell? ⟨w.heap.size + 1, 0, none⟩ = some d ∧ W.cell? ⟨w.heap.size + 1, 2, none⟩ = some f := by
  have h1 : W.heap[w.heap.size]? = some (.cells #[a, b, c] t) := by
    rw [hb.block _ (by simp; omega), Below.heap_alloc _ _ _ (by simp)]; exact heap_alloc_new w _
  have h2 : W.heap[w.heap.size + 1]? = some (.cells #[d, e, f] t) := by
    rw [hb.block _ (by simp)]
    have := heap_alloc_new (w.alloc (.cells #[a, b, c] t)) (.cells #[d, e, f] t)
    rwa [World.size_alloc] at this
  exact ⟨by rw [blk_cell h1]; rfl, by rw [blk_cell h1]; rfl, by rw [blk_cell h2]; rfl, by rw [blk_cell h2]; rfl⟩
theorem pivotlaw_sameOutcome_any (st tr su tq : Int) (tv uv : Value) (x y : List Int) (w : World) (ht : IntsV w tv x) (hu : IntsV w uv y) :
    Calls Tryz.prog 29 #[.agg #[.int .i64 st, tv, .int .i64 tr], .agg #[.int .i64 su, uv, .int .i64 tq]] w fun e w' => e = .returned (.bool (decide (x = y) && decide (st = su) && decide (tr = tq))) ∧ Below w.heap.size w w' := by
  have HT : Hid (IntsV w tv x) := ht
  have HU : Hid (IntsV w uv y) := hu
  obtain ⟨ta, tc, rfl, _⟩ := ht
  obtain ⟨ua, uc, rfl, _⟩ := hu
  rcases (show (¬ x = y) ∨ (x = y ∧ ¬ st = su) ∨ (x = y ∧ st = su ∧ ¬ tr = tq) ∨ (x = y ∧ st = su ∧ tr = tq) from by by_cases h1 : x = y <;> by_cases h2 : st = su <;> by_cases h3 : tr = tq <;> simp [*]) with k0 | ⟨rfl, k1⟩ | ⟨rfl, rfl, k2⟩ | ⟨rfl, rfl, rfl⟩
  all_goals
    go_enter Tryz.func29, Tryz.ntmps29
    go_wp2_with fail
    refine (pivotlaw_sameInts_any _ _ _ _ _ (HT.out.below (((Below.refl _ _).alloc (Nat.le_refl _) _).alloc (by simp) _)) (HU.out.below (((Below.refl _ _).alloc (Nat.le_refl _) _).alloc (by simp) _))).mono ?_
    rintro e W ⟨rfl, hb⟩
    obtain ⟨c0, c2, d0, d2⟩ := boxes2 hb
    have HB : Hid (Below w.heap.size w W) := (((Below.refl _ _).alloc (Nat.le_refl _) _).alloc (by simp) _).trans (hb.mono (by simp; omega))
    clear hb
    go_wp2
    go_ret
    refine ⟨ret_bool ?_, HB.out⟩
    simp [*]
theorem setCells_block {b : Nat} : ∀ (vs : List Value) (o : Nat) (w : World) (cur : Array Value) (t : TypeId) (fr : Nat × Nat), w.heap[b]? = some (.cells cur t fr) →
    ∃ cur' : Array Value, (w.setCells b o vs).heap[b]? = some (.cells cur' t fr) ∧ cur'.size = cur.size ∧ (∀ i, i < o → cur'[i]? = cur[i]?)
  | [], _, _, cur, _, _, h => ⟨cur, h, rfl, fun _ _ => rfl⟩
  | v :: r, o, w, cur, t, fr, h => by
    have h1 : (w.setCell ⟨b, o, none⟩ v).heap[b]? = some (.cells (cur.setIfInBounds o v) t fr) := by
      rw [setCell_eq_setRow w b o cur t fr v h]; exact setRow_heap w b cur _ t _ h
    obtain ⟨cur', h2, h3, h4⟩ := setCells_block r (o + 1) _ _ t fr h1
    refine ⟨cur', h2, by simpa using h3, fun i hi => ?_⟩
    rw [h4 i (by omega)]
    simp [show ¬ o = i by omega]
def KeepsRows (w w' : World) (v : Value) (n : Nat) : Prop := ∀ (b e s : Nat) (u : Value) (k : Nat) (ys : List Value), w.ownsRow b e s u k ys → (u.ownBlock = v.ownBlock → k * s ≤ n) → w'.ownsRow b e s u k ys
theorem keeps_of_block {w w' : World} {b e s : Nat} {u : Value} {k : Nat} {ys : List Value} (h : w.ownsRow b e s u k ys) (hb : ∀ g, u.ownBlock = some g → w'.heap[g]? = w.heap[g]?) : w'.ownsRow b e s u k ys := by
  refine ⟨h.1, ?_⟩
  rcases h.2 with h | ⟨g, cap, cur, rfl, h2, h3, h4⟩
  · exact Or.inl h
  · exact Or.inr ⟨g, cap, cur, rfl, h2, by rw [hb g rfl]; exact h3, h4⟩
theorem run_append_keep {P : Program} (w : World) (t ty : TypeId) (base : Nat) (e : TypeId) (i : TypeInfo) (z : Value) (size bytes : Nat) (ht : P.underlying t = some (.slice e)) (hi : P.info? e = some i) (hz : i.zero = some z)
    (hsize : i.size = size) (hby : i.bytes = bytes) (hzs : z.cells.size = size) (hsz : 0 < size)
    (v : Value) (n : Nat) (xs : List Value) (hown : w.ownsRow base e size v n xs)
    (ad : Addr) (m c : Nat) (news : List Value) (hl : news.length = m * size) (hnews : ∀ j u, news[j]? = some u → w.cell? (ad.add j) = some u) (h1 : ∀ u ∈ news, u.oneCell' = true)
    (hm : 0 < m) (h63 : n + m ≤ maxLen) (hbytes : (n + m) * bytes ≤ 140737488355328) (hbase : base ≤ w.heap.size) :
    ∃ g cap w', (Builtin.append_ #[t, t] ty #[v, .slice (some ad) m c]).run P w = .ok (.slice (some ⟨g, 0, none⟩) (n + m) cap) w' ∧
      w'.ownsRow base e size (.slice (some ⟨g, 0, none⟩) (n + m) cap) (n + m) (xs ++ news) ∧ KeepsRows w w' v (n * size) ∧ w.grownBy w' v.ownBlock ∧ (v.ownBlock = some g ∨ w.heap.size ≤ g) ∧ g < w'.heap.size := by
  obtain ⟨g, cap, w', hr, h2, h3, h4, h5⟩ := run_append_lies (P := P) w t ty base e i z size bytes ht hi hz hsize hby hzs hsz v n xs hown ad m c news hl hnews h1 hm h63 hbytes hbase _ rfl
  refine ⟨g, cap, w', hr, h2, ?_, h3, ?_, h5⟩
  · intro b2 e2 s2 u k ys hu hk
    rcases hown.2 with ⟨rfl, h0⟩ | ⟨gv, cv, cur, rfl, hb, hh, hn, hc, hs, htk⟩
    · refine keeps_of_block hu (fun q hq => ?_)
      have hq' : q < w.heap.size := by
        rcases hu.2 with ⟨rfl, _⟩ | ⟨g2, c2, u2, rfl, _, h6, _⟩
        · cases hq
        · injection hq with hq; have hq : g2 = q := hq; subst hq; exact (Array.getElem?_eq_some_iff.1 h6).1
      exact h3.block q hq' (by simp [Value.ownBlock])
    · by_cases hroom : n + m ≤ cv
      · -- there is room: the cells behind the n-th are written, no other
        subst hsize
        have hcell : ∀ j, j < news.length → (w.cell? ⟨gv, 0 + n * i.size + j, none⟩).isSome = true := fun j hj => by
          have : 0 + n * i.size + j < cur.size := by
            have h6 : (n + m) * i.size ≤ cv * i.size := Nat.mul_le_mul_right _ hroom
            rw [Nat.add_mul] at h6
            omega
          simp only [Nat.zero_add] at this ⊢
          simp [World.cell?, hh, this]
        have hfr : ∀ j, j < news.length → w.frozen? ⟨gv, 0 + n * i.size + j, none⟩ = false := fun j _ => by simp [World.frozen?, hh]
        have hrun := run_append_room_cells (P := P) w t ty e i ht hi gv 0 n cv ad m c news hl hnews h1 hroom hcell hfr
        rw [hrun] at hr
        injection hr with _ hw
        subst hw
        obtain ⟨cur', k1, k2, k3⟩ := setCells_block news (0 + n * i.size) w cur e (0, 0) hh
        rcases hu.2 with hu2 | ⟨g2, c2, u2, rfl, hb2, hh2, hn2, hc2, hs2, ht2⟩
        · exact ⟨hu.1, Or.inl hu2⟩
        · by_cases hg : g2 = gv
          · subst hg
            rw [hh] at hh2
            injection hh2 with hh2
            injection hh2 with q1 q2
            subst q1 q2
            have hkn := hk rfl
            refine ⟨hu.1, Or.inr ⟨g2, c2, cur', rfl, hb2, k1, hn2, hc2, by rw [k2]; exact hs2, ?_⟩⟩
            rw [← ht2]
            apply List.ext_getElem?
            intro j
            by_cases hj : j < k * s2
            · rw [List.getElem?_take_of_lt hj, List.getElem?_take_of_lt hj]
              simpa using k3 j (by omega)
            · rw [List.getElem?_eq_none (by simp; omega), List.getElem?_eq_none (by simp; omega)]
          · refine ⟨hu.1, Or.inr ⟨g2, c2, u2, rfl, hb2, ?_, hn2, hc2, hs2, ht2⟩⟩
            rw [h3.block g2 (Array.getElem?_eq_some_iff.1 hh2).1 (by simp [Value.ownBlock]; exact hg)]
            exact hh2
      · -- it grows: nothing that was there is written
        have holds : ∀ j u, xs[j]? = some u → w.cell? ((⟨gv, 0, none⟩ : Addr).add j) = some u := fun j u hu => by
          have hadd : (⟨gv, 0, none⟩ : Addr).add j = ⟨gv, j, none⟩ := by unfold Addr.add; split <;> simp_all
          have hj : j < xs.length := (List.getElem?_eq_some_iff.1 hu).1
          rw [hown.1] at hj
          rw [hadd]
          rw [← htk, List.getElem?_take_of_lt hj] at hu
          simpa [World.cell?, hh] using hu
        obtain ⟨v', w'', hrun, _, hgr⟩ := run_append_arg_grows (P := P) w t ty e i z size bytes ht hi hz hsize hby hzs hsz ⟨gv, 0, none⟩ n cv xs hown.1 holds ad m c news hl hnews (by omega) h63 hbytes
        rw [hrun] at hr
        injection hr with _ hw
        subst hw
        refine keeps_of_block hu (fun q hq => ?_)
        have hq' : q < w.heap.size := by
          rcases hu.2 with ⟨rfl, _⟩ | ⟨g2, c2, u2, rfl, _, h6, _⟩
          · cases hq
          · injection hq with hq; have hq : g2 = q := hq; subst hq; exact (Array.getElem?_eq_some_iff.1 h6).1
        exact hgr.block q hq' (by simp)
  · rcases h4 with h4 | h4
    · exact Or.inl h4
    · exact Or.inr (by omega)
theorem wpList_append_keep {P : Program} {w : World} {ops : Array Oper} {rest : List Oper} {o : Oper} {a : Act} {Q : Exit → Act → World → Prop} (hgd : o.guard = none) (s x : Operand) (t : TypeId)
    (ho : o.op = .call { callee := .builtin .append, args := #[s, x], argTypes := #[t, t] })
    (base : Nat) (e : TypeId) (i : TypeInfo) (z : Value) (size bytes : Nat) (ht : P.underlying t = some (.slice e)) (hi : P.info? e = some i) (hz : i.zero = some z)
    (hsize : i.size = size) (hby : i.bytes = bytes) (hzs : z.cells.size = size) (hsz : 0 < size)
    (v : Value) (n : Nat) (xs : List Value) (hs : a.eval s = v) (hown : w.ownsRow base e size v n xs)
    (ad : Addr) (m c : Nat) (news : List Value) (hx : a.eval x = .slice (some ad) m c) (hl : news.length = m * size) (hnews : ∀ j u, news[j]? = some u → w.cell? (ad.add j) = some u) (h1 : ∀ u ∈ news, u.oneCell' = true)
    (hm : 0 < m) (h63 : n + m ≤ maxLen) (hbytes : (n + m) * bytes ≤ 140737488355328) (hbase : base ≤ w.heap.size)
    (h : ∀ g cap w', w'.ownsRow base e size (.slice (some ⟨g, 0, none⟩) (n + m) cap) (n + m) (xs ++ news) → KeepsRows w w' v (n * size) → w.grownBy w' v.ownBlock → (v.ownBlock = some g ∨ w.heap.size ≤ g) → g < w'.heap.size → wpList P ops Q rest (a.put o.dst (.slice (some ⟨g, 0, none⟩) (n + m) cap)) w') :
    wpList P ops Q (o :: rest) a w := by
  refine wpList_plain hgd fun K hK => ?_
  obtain ⟨g, cap, w', hr, h2, h3, h4, h5, h6⟩ := run_append_keep (P := P) w t o.type base e i z size bytes ht hi hz hsize hby hzs hsz v n xs hown ad m c news hl hnews h1 hm h63 hbytes hbase
  unfold Oper.wp execOp
  simp only [ho, resolve, invoke, builtin, Sem.run_bind, Sem.run_pure, Result.andThen_ok, List.map_toArray, List.map_cons, List.map_nil, hs, hx, hr]
  exact hK _ _ (h g cap w' h2 h3 h4 h5 h6)
end Go.Proofs.YtlbmcdoldnajoaaGreat
