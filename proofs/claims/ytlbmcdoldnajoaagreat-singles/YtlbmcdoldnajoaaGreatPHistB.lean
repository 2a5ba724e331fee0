import Derived.Test.YtlbmcdoldnajoaaGreatPHist
set_option maxRecDepth 100000
set_option maxHeartbeats 400000
namespace Go.Proofs.YtlbmcdoldnajoaaGreat
open Go.RowKit
attribute [local go_sem ↓] wStM wStR wLdM wLdR wLdK wStK wLdA wStA wLdG wStG
structure HistAt (w : World) (hb ho : Nat) (kv : Value) (l : List KnM) : Prop where
  cell : w.cell? ⟨hb, ho + 1, none⟩ = some kv
  lt : hb < w.heap.size
  row : w.ownsRow 0 165 36 kv l.length (knCells l)
  ok : ∀ u ∈ l, u.a.ok
theorem HistAt.below {w w' : World} {hb ho : Nat} {kv : Value} {l : List KnM} (h : HistAt w hb ho kv l) (hB : Below w.heap.size w w') : HistAt w' hb ho kv l :=
  ⟨(hB.cell (p := ⟨hb, ho + 1, none⟩) h.lt).trans h.cell, Nat.lt_of_lt_of_le h.lt hB.size, owns_keep h.row hB, h.ok⟩
theorem knCells_at {l : List KnM} (hl : ∀ u ∈ l, u.a.ok) {i : Nat} (hi : i < l.length) {k : Nat} (hk : k < 36) : (knCells l)[i * 36 + k]? = (knC (l.getD i kn0))[k]? := by
  rw [knCells, flat_get 36 _ (fun x hx => by obtain ⟨a, ha, rfl⟩ := List.mem_map.1 hx; exact knC_len (hl a ha)) i k hk]
  simp [List.getD, hi]
theorem HistAt.elem {w : World} {hb ho : Nat} {g cap : Nat} {l : List KnM} (h : HistAt w hb ho (.slice (some ⟨g, 0, none⟩) l.length cap) l) {i : Nat} (hi : i < l.length) : KnAt w g (i * 36) (l.getD i kn0) := fun j v hj => by
  have hm : l.getD i kn0 ∈ l := by simp [List.getD, hi]
  have hj36 : j < 36 := by have := (List.getElem?_eq_some_iff.1 hj).1; rwa [knC_len (h.ok _ hm)] at this
  have := h.row.cellAt (i * 36 + j) (by omega)
  rw [knCells_at h.ok hi hj36] at this
  exact this.trans hj
def GaveN (n : Nat) (w : World) (e : Ending) (w' : World) : Prop := e = .returned (.int .i64 (n : Int)) ∧ Below w.heap.size w w'
theorem drop_cons {l : List KnM} {j : Nat} (h : j < l.length) : l.drop j = l.getD j kn0 :: l.drop (j + 1) := by
  rw [List.drop_eq_getElem_cons h]
  simp [List.getD, h]
theorem HistAt.some {w : World} {hb ho : Nat} {ka : Option Addr} {kc : Nat} {l : List KnM} (h : HistAt w hb ho (.slice ka l.length kc) l) (hl : 0 < l.length) : ∃ g, ka = Option.some ⟨g, 0, none⟩ ∧ g < w.heap.size := by
  obtain ⟨g, cap, hv, hg, _⟩ := owns_pos h.row hl
  injection hv with h1
  exact ⟨g, h1, hg⟩
structure Seen (w : World) (tb : Nat) (t : AtM) (ub : Nat) (u : KnM) (W : World) : Prop where
  t : AtBlk W tb t
  u : KnBlk W ub u
  bel : Below w.heap.size w W
theorem Seen.below {w : World} {tb ub : Nat} {t : AtM} {u : KnM} {W W' : World} (h : Seen w tb t ub u W) (hb : Below W.heap.size W W') : Seen w tb t ub u W' :=
  ⟨(hb.block _ (blk_lt h.t)).trans h.t, (hb.block _ (blk_lt h.u)).trans h.u, h.bel.trans (hb.mono h.bel.size)⟩
theorem missed_any (w : World) (hb ho : Nat) (kv : Value) (l : List KnM) (t : AtM) (h : HistAt w hb ho kv l) (ht : t.ok) (hl : l.length ≤ 1000000000) :
    Calls Tryz.prog 118 #[.pointer (some ⟨hb, ho, none⟩), .agg (atC t).toArray] w fun e w' => GaveN (missedK t l) w e w' := by
  obtain ⟨ka, kc, hkv⟩ := owns_form h.row
  subst hkv
  have H : Hid (HistAt w hb ho (.slice ka l.length kc) l) := h
  obtain ⟨ca, hca⟩ : ∃ ca, ca = (atC t).toArray := ⟨_, rfl⟩
  have HCA : Hid (ca = (atC t).toArray) := hca
  rw [← hca]
  obtain ⟨n, hn⟩ : ∃ n, n = l.length := ⟨_, rfl⟩
  have HN : Hid (n = l.length) := hn
  have c0 := h.cell
  rw [← hn] at c0 hl
  have hlt := h.lt
  clear h hca hn
  go_enter Tryz.func118, Tryz.ntmps118
  go_wp2
  go_loopw [12] (fun i wr => ∃ j : Nat, j ≤ n ∧ i = .int .i64 j ∧ missedK t l = missedK t (l.drop j) ∧ AtBlk wr w.heap.size t ∧ Below w.heap.size w wr) (fun i _ => n - (intOf i).toNat)
  case atStart => exact ⟨0, Nat.zero_le _, rfl, rfl, by rw [AtBlk, ← HCA.out]; exact heap_alloc_new _ _, (Below.refl _ _).alloc (Nat.le_refl _) _⟩
  case round =>
    obtain ⟨j, hj, rfl, hk1, hk2, hk3⟩ := hrel
    have HR : Hid (missedK t l = missedK t (l.drop j) ∧ AtBlk wr w.heap.size t ∧ Below w.heap.size w wr) := ⟨hk1, hk2, hk3⟩
    clear hk1 hk2 hk3
    by_cases hlt : j < n
    · have hjl : j < l.length := by rw [← HN.out]; exact hlt
      obtain ⟨g, hka, hg⟩ := H.out.some (by omega)
      subst hka
      have m1 : (j : Int) < (n : Int) := by omega
      have m0 : (0 : Int) ≤ (j : Int) := by omega
      obtain ⟨u, hu⟩ : ∃ u, u = l.getD j kn0 := ⟨_, rfl⟩
      have hmem : u ∈ l := by rw [hu]; simp [List.getD, hjl]
      have hok : u.a.ok := H.out.ok u hmem
      have HE : Hid (KnAt wr g (j * 36) u) := by
        have := (H.out.below HR.out.2.2).elem hjl
        rw [← hu] at this
        exact this
      have HD : Hid (l.drop j = u :: l.drop (j + 1)) := by rw [hu]; exact drop_cons hjl
      clear hu
      go_wp2
      refine wp_ldN (T := 165) g (j * 36) (by rfl) (by rfl) (by exact HE.out) (by exact Tryz.underlying165) (by rfl) (by rw [Tryz.sizeG, knC_len hok]) ?_
      obtain ⟨cu, hcu⟩ : ∃ cu, cu = (knC u).toArray := ⟨_, rfl⟩
      have HCU : Hid (cu = (knC u).toArray) := hcu
      rw [← hcu]
      clear hcu
      go_wp2
      refine wp_stN (T := 165) wr.heap.size (by rfl) (by rfl) (by rfl) (by exact heap_alloc_new _ _) (by rw [HCU.out, Tryz.sizeG]; simp [knC_len hok]) (by rw [HCU.out]; simp [knC_len hok]) (by rw [HCU.out]; exact knC_one u) ?_
      rintro W1 hW1 hF1
      have HS : Hid (Seen w w.heap.size t wr.heap.size u W1) := by
        have hs := HR.out.2.2.size
        have hl1 := blk_lt HR.out.2.1
        refine ⟨hF1.blk ((Below.heap_alloc _ _ _ hl1).trans HR.out.2.1) (by omega), by rw [HCU.out] at hW1; exact hW1, HR.out.2.2.trans (((Below.refl _ wr).alloc hs _).trans (hF1.below (by omega) (by simp; omega)))⟩
      clear hW1 hF1
      go_wp2
      refine wp_ldN (T := 163) w.heap.size 0 (by rfl) (by rfl) (by exact HS.out.t.at) (by exact Tryz.underlying163) (by rfl) (by rw [Tryz.sizeA, atC_len ht]) ?_
      go_wp2_with fail
      refine (later_any W1 wr.heap.size u t HS.out.u hok).mono ?_
      rintro e W2 ⟨rfl, hb2⟩
      have HS2 : Hid (Seen w w.heap.size t wr.heap.size u W2) := HS.out.below hb2
      clear hb2
      have HM : Hid (missedK t l = if u.later t && DeskM.share u.a.wrote t.read then u.number else missedK t (l.drop (j + 1))) := by show _ = _; rw [HR.out.1, HD.out]; rfl
      cases hlat : u.later t
      · go_wp2
        go_roundw
        case rel => exact ⟨j + 1, by omega, by go_num, by rw [HM.out, hlat]; rfl, HS2.out.t, HS2.out.bel⟩
        case measure => simp [intOf]; omega
      · skip
        go_wp2
        refine wp_ldN (T := 103) wr.heap.size 18 (by rfl) (by rfl) (by have h := HS2.out.u.at.at.wrote hok; rw [Nat.zero_add] at h; exact h) (by exact Tryz.underlying103) (by rfl) (by rw [Tryz.sizeK, length_rdCells, hok.2]) ?_
        go_wp2
        refine wp_ldN (T := 103) w.heap.size 2 (by rfl) (by rfl) (by have h := HS2.out.t.at.read ht; rw [Nat.zero_add] at h; exact h) (by exact Tryz.underlying103) (by rfl) (by rw [Tryz.sizeK, length_rdCells, ht.1]) ?_
        go_wp2_with fail
        refine (meet_any u.a.wrote t.read hok.2 ht.1 W2).mono ?_
        rintro e W3 ⟨rfl, hb3⟩
        have HS3 : Hid (Seen w w.heap.size t wr.heap.size u W3) := HS2.out.below hb3
        clear hb3
        cases hsh : DeskM.share u.a.wrote t.read
        · go_wp2
          go_roundw
          case rel => exact ⟨j + 1, by omega, by go_num, by rw [HM.out, hlat, hsh]; rfl, HS3.out.t, HS3.out.bel⟩
          case measure => simp [intOf]; omega
        · have cn := HS3.out.u.at.num hok
          rw [Nat.zero_add] at cn
          go_wp2
          go_ret
          exact ⟨by rw [HM.out, hlat, hsh]; rfl, HS3.out.bel⟩
    · obtain rfl : j = n := by omega
      have HZ : Hid (missedK t l = 0) := by show _ = _; rw [HR.out.1, HN.out, List.drop_length]; rfl
      go_wp2
      go_ret
      exact ⟨by rw [HZ.out]; rfl, HR.out.2.2⟩
theorem clash_any (w : World) (hb ho : Nat) (kv : Value) (l : List KnM) (t : AtM) (h : HistAt w hb ho kv l) (ht : t.ok) (hl : l.length ≤ 1000000000) :
    Calls Tryz.prog 115 #[.pointer (some ⟨hb, ho, none⟩), .agg (atC t).toArray] w fun e w' => GaveN (clashK t l 0) w e w' := by
  obtain ⟨ka, kc, hkv⟩ := owns_form h.row
  subst hkv
  have H : Hid (HistAt w hb ho (.slice ka l.length kc) l) := h
  obtain ⟨ca, hca⟩ : ∃ ca, ca = (atC t).toArray := ⟨_, rfl⟩
  have HCA : Hid (ca = (atC t).toArray) := hca
  rw [← hca]
  obtain ⟨n, hn⟩ : ∃ n, n = l.length := ⟨_, rfl⟩
  have HN : Hid (n = l.length) := hn
  have c0 := h.cell
  rw [← hn] at c0 hl
  have hlt := h.lt
  clear h hca hn
  go_enter Tryz.func115, Tryz.ntmps115
  go_wp2
  go_loopw [5, 13] (fun pv i wr => ∃ j q : Nat, j ≤ n ∧ i = .int .i64 j ∧ pv = .int .i64 q ∧ clashK t l 0 = clashK t (l.drop j) q ∧ AtBlk wr w.heap.size t ∧ Below w.heap.size w wr) (fun _ i _ => n - (intOf i).toNat)
  case atStart => exact ⟨0, 0, Nat.zero_le _, rfl, rfl, rfl, by rw [AtBlk, ← HCA.out]; exact heap_alloc_new _ _, (Below.refl _ _).alloc (Nat.le_refl _) _⟩
  case round =>
    obtain ⟨j, q, hj, rfl, rfl, hk1, hk2, hk3⟩ := hrel
    have HR : Hid (clashK t l 0 = clashK t (l.drop j) q ∧ AtBlk wr w.heap.size t ∧ Below w.heap.size w wr) := ⟨hk1, hk2, hk3⟩
    clear hk1 hk2 hk3
    by_cases hlt : j < n
    · have hjl : j < l.length := by rw [← HN.out]; exact hlt
      obtain ⟨g, hka, hg⟩ := H.out.some (by omega)
      subst hka
      have m1 : (j : Int) < (n : Int) := by omega
      have m0 : (0 : Int) ≤ (j : Int) := by omega
      obtain ⟨u, hu⟩ : ∃ u, u = l.getD j kn0 := ⟨_, rfl⟩
      have hmem : u ∈ l := by rw [hu]; simp [List.getD, hjl]
      have hok : u.a.ok := H.out.ok u hmem
      have HE : Hid (KnAt wr g (j * 36) u) := by
        have := (H.out.below HR.out.2.2).elem hjl
        rw [← hu] at this
        exact this
      have HD : Hid (l.drop j = u :: l.drop (j + 1)) := by rw [hu]; exact drop_cons hjl
      clear hu
      go_wp2
      refine wp_ldN (T := 165) g (j * 36) (by rfl) (by rfl) (by exact HE.out) (by exact Tryz.underlying165) (by rfl) (by rw [Tryz.sizeG, knC_len hok]) ?_
      obtain ⟨cu, hcu⟩ : ∃ cu, cu = (knC u).toArray := ⟨_, rfl⟩
      have HCU : Hid (cu = (knC u).toArray) := hcu
      rw [← hcu]
      clear hcu
      go_wp2
      refine wp_stN (T := 165) wr.heap.size (by rfl) (by rfl) (by rfl) (by exact heap_alloc_new _ _) (by rw [HCU.out, Tryz.sizeG]; simp [knC_len hok]) (by rw [HCU.out]; simp [knC_len hok]) (by rw [HCU.out]; exact knC_one u) ?_
      rintro W1 hW1 hF1
      have HS : Hid (Seen w w.heap.size t wr.heap.size u W1) := by
        have hs := HR.out.2.2.size
        have hl1 := blk_lt HR.out.2.1
        refine ⟨hF1.blk ((Below.heap_alloc _ _ _ hl1).trans HR.out.2.1) (by omega), by rw [HCU.out] at hW1; exact hW1, HR.out.2.2.trans (((Below.refl _ wr).alloc hs _).trans (hF1.below (by omega) (by simp; omega)))⟩
      clear hW1 hF1
      go_wp2
      refine wp_ldN (T := 163) w.heap.size 0 (by rfl) (by rfl) (by exact HS.out.t.at) (by exact Tryz.underlying163) (by rfl) (by rw [Tryz.sizeA, atC_len ht]) ?_
      go_wp2_with fail
      refine (later_any W1 wr.heap.size u t HS.out.u hok).mono ?_
      rintro e W2 ⟨rfl, hb2⟩
      have HS2 : Hid (Seen w w.heap.size t wr.heap.size u W2) := HS.out.below hb2
      clear hb2
      have ct := HS2.out.u.at.at.tick
      have HM : Hid (clashK t l 0 = clashK t (l.drop (j + 1)) (if u.later t && DeskM.share u.a.wrote t.wrote then u.a.ticket else q)) := by show _ = _; rw [HR.out.1, HD.out]; rfl
      cases hlat : u.later t
      · skip
        go_wp2
        go_roundw
        case rel => exact ⟨j + 1, q, by omega, by go_num, rfl, by rw [HM.out, hlat]; rfl, HS2.out.t, HS2.out.bel⟩
        case measure => simp [intOf]; omega
      · skip
        go_wp2
        refine wp_ldN (T := 103) wr.heap.size 18 (by rfl) (by rfl) (by have h := HS2.out.u.at.at.wrote hok; rw [Nat.zero_add] at h; exact h) (by exact Tryz.underlying103) (by rfl) (by rw [Tryz.sizeK, length_rdCells, hok.2]) ?_
        go_wp2
        refine wp_ldN (T := 103) w.heap.size 18 (by rfl) (by rfl) (by have h := HS2.out.t.at.wrote ht; rw [Nat.zero_add] at h; exact h) (by exact Tryz.underlying103) (by rfl) (by rw [Tryz.sizeK, length_rdCells, ht.2]) ?_
        go_wp2_with fail
        refine (meet_any u.a.wrote t.wrote hok.2 ht.2 W2).mono ?_
        rintro e W3 ⟨rfl, hb3⟩
        have HS3 : Hid (Seen w w.heap.size t wr.heap.size u W3) := HS2.out.below hb3
        clear hb3
        have ct3 := HS3.out.u.at.at.tick
        clear ct
        cases hsh : DeskM.share u.a.wrote t.wrote
        · skip
          go_wp2
          go_roundw
          case rel => exact ⟨j + 1, q, by omega, by go_num, rfl, by rw [HM.out, hlat, hsh]; rfl, HS3.out.t, HS3.out.bel⟩
          case measure => simp [intOf]; omega
        · skip
          go_wp2
          go_roundw
          case rel => exact ⟨j + 1, u.a.ticket, by omega, by go_num, rfl, by rw [HM.out, hlat, hsh]; rfl, HS3.out.t, HS3.out.bel⟩
          case measure => simp [intOf]; omega
    · obtain rfl : j = n := by omega
      have HZ : Hid (clashK t l 0 = q) := by show _ = _; rw [HR.out.1, HN.out, List.drop_length]; rfl
      go_wp2
      go_ret
      exact ⟨by rw [HZ.out]; rfl, HR.out.2.2⟩
theorem pivot_any (w : World) (hb ho : Nat) (kv : Value) (l : List KnM) (t : AtM) (h : HistAt w hb ho kv l) (ht : t.ok) (hl : l.length ≤ 1000000000) :
    Calls Tryz.prog 116 #[.pointer (some ⟨hb, ho, none⟩), .agg (atC t).toArray] w fun e w' => GaveN (pivotK t l 0) w e w' := by
  obtain ⟨ka, kc, hkv⟩ := owns_form h.row
  subst hkv
  have H : Hid (HistAt w hb ho (.slice ka l.length kc) l) := h
  obtain ⟨ca, hca⟩ : ∃ ca, ca = (atC t).toArray := ⟨_, rfl⟩
  have HCA : Hid (ca = (atC t).toArray) := hca
  rw [← hca]
  obtain ⟨n, hn⟩ : ∃ n, n = l.length := ⟨_, rfl⟩
  have HN : Hid (n = l.length) := hn
  have c0 := h.cell
  rw [← hn] at c0 hl
  have hlt := h.lt
  clear h hca hn
  go_enter Tryz.func116, Tryz.ntmps116
  go_wp2
  go_loopw [5, 13] (fun pv i wr => ∃ j q : Nat, j ≤ n ∧ i = .int .i64 j ∧ pv = .int .i64 q ∧ pivotK t l 0 = pivotK t (l.drop j) q ∧ AtBlk wr w.heap.size t ∧ Below w.heap.size w wr) (fun _ i _ => n - (intOf i).toNat)
  case atStart => exact ⟨0, 0, Nat.zero_le _, rfl, rfl, rfl, by rw [AtBlk, ← HCA.out]; exact heap_alloc_new _ _, (Below.refl _ _).alloc (Nat.le_refl _) _⟩
  case round =>
    obtain ⟨j, q, hj, rfl, rfl, hk1, hk2, hk3⟩ := hrel
    have HR : Hid (pivotK t l 0 = pivotK t (l.drop j) q ∧ AtBlk wr w.heap.size t ∧ Below w.heap.size w wr) := ⟨hk1, hk2, hk3⟩
    clear hk1 hk2 hk3
    by_cases hlt : j < n
    · have hjl : j < l.length := by rw [← HN.out]; exact hlt
      obtain ⟨g, hka, hg⟩ := H.out.some (by omega)
      subst hka
      have m1 : (j : Int) < (n : Int) := by omega
      have m0 : (0 : Int) ≤ (j : Int) := by omega
      obtain ⟨u, hu⟩ : ∃ u, u = l.getD j kn0 := ⟨_, rfl⟩
      have hmem : u ∈ l := by rw [hu]; simp [List.getD, hjl]
      have hok : u.a.ok := H.out.ok u hmem
      have HE : Hid (KnAt wr g (j * 36) u) := by
        have := (H.out.below HR.out.2.2).elem hjl
        rw [← hu] at this
        exact this
      have HD : Hid (l.drop j = u :: l.drop (j + 1)) := by rw [hu]; exact drop_cons hjl
      clear hu
      go_wp2
      refine wp_ldN (T := 165) g (j * 36) (by rfl) (by rfl) (by exact HE.out) (by exact Tryz.underlying165) (by rfl) (by rw [Tryz.sizeG, knC_len hok]) ?_
      obtain ⟨cu, hcu⟩ : ∃ cu, cu = (knC u).toArray := ⟨_, rfl⟩
      have HCU : Hid (cu = (knC u).toArray) := hcu
      rw [← hcu]
      clear hcu
      go_wp2
      refine wp_stN (T := 165) wr.heap.size (by rfl) (by rfl) (by rfl) (by exact heap_alloc_new _ _) (by rw [HCU.out, Tryz.sizeG]; simp [knC_len hok]) (by rw [HCU.out]; simp [knC_len hok]) (by rw [HCU.out]; exact knC_one u) ?_
      rintro W1 hW1 hF1
      have HS : Hid (Seen w w.heap.size t wr.heap.size u W1) := by
        have hs := HR.out.2.2.size
        have hl1 := blk_lt HR.out.2.1
        refine ⟨hF1.blk ((Below.heap_alloc _ _ _ hl1).trans HR.out.2.1) (by omega), by rw [HCU.out] at hW1; exact hW1, HR.out.2.2.trans (((Below.refl _ wr).alloc hs _).trans (hF1.below (by omega) (by simp; omega)))⟩
      clear hW1 hF1
      go_wp2
      refine wp_ldN (T := 163) w.heap.size 0 (by rfl) (by rfl) (by exact HS.out.t.at) (by exact Tryz.underlying163) (by rfl) (by rw [Tryz.sizeA, atC_len ht]) ?_
      go_wp2_with fail
      refine (later_any W1 wr.heap.size u t HS.out.u hok).mono ?_
      rintro e W2 ⟨rfl, hb2⟩
      have HS2 : Hid (Seen w w.heap.size t wr.heap.size u W2) := HS.out.below hb2
      clear hb2
      have HM : Hid (pivotK t l 0 = pivotK t (u :: l.drop (j + 1)) q) := by show _ = _; rw [HR.out.1, HD.out]
      cases hlat : u.later t
      · skip
        go_wp2
        go_roundw
        case rel => exact ⟨j + 1, q, by omega, by go_num, rfl, by rw [HM.out, pivotK, hlat]; rfl, HS2.out.t, HS2.out.bel⟩
        case measure => simp [intOf]; omega
      · by_cases hq : q = 0
        · subst hq
          go_wp2
          refine wp_ldN (T := 103) wr.heap.size 18 (by rfl) (by rfl) (by have h := HS2.out.u.at.at.wrote hok; rw [Nat.zero_add] at h; exact h) (by exact Tryz.underlying103) (by rfl) (by rw [Tryz.sizeK, length_rdCells, hok.2]) ?_
          go_wp2
          refine wp_ldN (T := 103) w.heap.size 2 (by rfl) (by rfl) (by have h := HS2.out.t.at.read ht; rw [Nat.zero_add] at h; exact h) (by exact Tryz.underlying103) (by rfl) (by rw [Tryz.sizeK, length_rdCells, ht.1]) ?_
          go_wp2_with fail
          refine (meet_any u.a.wrote t.read hok.2 ht.1 W2).mono ?_
          rintro e W3 ⟨rfl, hb3⟩
          have HS3 : Hid (Seen w w.heap.size t wr.heap.size u W3) := HS2.out.below hb3
          clear hb3
          have ct3 := HS3.out.u.at.at.tick
          cases hsh : DeskM.share u.a.wrote t.read
          · skip
            go_wp2
            go_roundw
            case rel => exact ⟨j + 1, 0, by omega, by go_num, rfl, by rw [HM.out, pivotK, hlat]; simp [hsh], HS3.out.t, HS3.out.bel⟩
            case measure => simp [intOf]; omega
          · by_cases htk : u.a.ticket = 0
            · have e0 : (u.a.ticket : Int) = 0 := by omega
              rw [e0] at ct3
              go_wp2
              go_roundw
              case rel => exact ⟨j + 1, 0, by omega, by go_num, rfl, by rw [HM.out, pivotK, hlat]; simp [hsh, htk], HS3.out.t, HS3.out.bel⟩
              case measure => simp [intOf]; omega
            · have e0 : ¬ (u.a.ticket : Int) = 0 := by omega
              go_wp2
              refine wp_ldN (T := 103) wr.heap.size 2 (by rfl) (by rfl) (by have h := HS3.out.u.at.at.read hok; rw [Nat.zero_add] at h; exact h) (by exact Tryz.underlying103) (by rfl) (by rw [Tryz.sizeK, length_rdCells, hok.1]) ?_
              go_wp2
              refine wp_ldN (T := 103) w.heap.size 18 (by rfl) (by rfl) (by have h := HS3.out.t.at.wrote ht; rw [Nat.zero_add] at h; exact h) (by exact Tryz.underlying103) (by rfl) (by rw [Tryz.sizeK, length_rdCells, ht.2]) ?_
              go_wp2_with fail
              refine (meet_any u.a.read t.wrote hok.1 ht.2 W3).mono ?_
              rintro e W4 ⟨rfl, hb4⟩
              have HS4 : Hid (Seen w w.heap.size t wr.heap.size u W4) := HS3.out.below hb4
              clear hb4
              cases hs2 : DeskM.share u.a.read t.wrote
              · skip
                go_wp2
                go_roundw
                case rel => exact ⟨j + 1, u.a.ticket, by omega, by go_num, rfl, by rw [HM.out, pivotK, hlat]; simp [hsh, hs2], HS4.out.t, HS4.out.bel⟩
                case measure => simp [intOf]; omega
              · have HZ : Hid (pivotK t l 0 = u.a.ticket) := by show _ = _; rw [HM.out, pivotK, hlat]; simp [hsh, hs2, htk]
                go_wp2
                go_ret
                exact ⟨by rw [HZ.out]; rfl, HS4.out.bel⟩
        · have e0 : ¬ (q : Int) = 0 := by omega
          go_wp2
          refine wp_ldN (T := 103) wr.heap.size 2 (by rfl) (by rfl) (by have h := HS2.out.u.at.at.read hok; rw [Nat.zero_add] at h; exact h) (by exact Tryz.underlying103) (by rfl) (by rw [Tryz.sizeK, length_rdCells, hok.1]) ?_
          go_wp2
          refine wp_ldN (T := 103) w.heap.size 18 (by rfl) (by rfl) (by have h := HS2.out.t.at.wrote ht; rw [Nat.zero_add] at h; exact h) (by exact Tryz.underlying103) (by rfl) (by rw [Tryz.sizeK, length_rdCells, ht.2]) ?_
          go_wp2_with fail
          refine (meet_any u.a.read t.wrote hok.1 ht.2 W2).mono ?_
          rintro e W3 ⟨rfl, hb3⟩
          have HS3 : Hid (Seen w w.heap.size t wr.heap.size u W3) := HS2.out.below hb3
          clear hb3
          cases hs2 : DeskM.share u.a.read t.wrote
          · skip
            go_wp2
            go_roundw
            case rel => exact ⟨j + 1, q, by omega, by go_num, rfl, by rw [HM.out, pivotK, hlat]; simp [hq, hs2], HS3.out.t, HS3.out.bel⟩
            case measure => simp [intOf]; omega
          · have HZ : Hid (pivotK t l 0 = q) := by show _ = _; rw [HM.out, pivotK, hlat]; simp [hq, hs2]
            go_wp2
            go_ret
            exact ⟨by rw [HZ.out]; rfl, HS3.out.bel⟩
    · obtain rfl : j = n := by omega
      have HZ : Hid (pivotK t l 0 = 0) := by show _ = _; rw [HR.out.1, HN.out, List.drop_length]; rfl
      go_wp2
      go_ret
      exact ⟨by rw [HZ.out]; rfl, HR.out.2.2⟩
theorem outer_any (w : World) (hb ho : Nat) (kv : Value) (l : List KnM) (t : AtM) (h : HistAt w hb ho kv l) (ht : t.ok) (hl : l.length ≤ 1000000000) :
    Calls Tryz.prog 117 #[.pointer (some ⟨hb, ho, none⟩), .agg (atC t).toArray] w fun e w' => GaveN (outerK t l) w e w' := by
  obtain ⟨ka, kc, hkv⟩ := owns_form h.row
  subst hkv
  have H : Hid (HistAt w hb ho (.slice ka l.length kc) l) := h
  obtain ⟨ca, hca⟩ : ∃ ca, ca = (atC t).toArray := ⟨_, rfl⟩
  have HCA : Hid (ca = (atC t).toArray) := hca
  rw [← hca]
  obtain ⟨n, hn⟩ : ∃ n, n = l.length := ⟨_, rfl⟩
  have HN : Hid (n = l.length) := hn
  have c0 := h.cell
  rw [← hn] at c0 hl
  have hlt := h.lt
  clear h hca hn
  go_enter Tryz.func117, Tryz.ntmps117
  go_wp2
  go_loopw [12] (fun i wr => ∃ j : Nat, j ≤ n ∧ i = .int .i64 j ∧ outerK t l = outerK t (l.drop j) ∧ AtBlk wr w.heap.size t ∧ Below w.heap.size w wr) (fun i _ => n - (intOf i).toNat)
  case atStart => exact ⟨0, Nat.zero_le _, rfl, rfl, by rw [AtBlk, ← HCA.out]; exact heap_alloc_new _ _, (Below.refl _ _).alloc (Nat.le_refl _) _⟩
  case round =>
    obtain ⟨j, hj, rfl, hk1, hk2, hk3⟩ := hrel
    have HR : Hid (outerK t l = outerK t (l.drop j) ∧ AtBlk wr w.heap.size t ∧ Below w.heap.size w wr) := ⟨hk1, hk2, hk3⟩
    clear hk1 hk2 hk3
    by_cases hlt : j < n
    · have hjl : j < l.length := by rw [← HN.out]; exact hlt
      obtain ⟨g, hka, hg⟩ := H.out.some (by omega)
      subst hka
      have m1 : (j : Int) < (n : Int) := by omega
      have m0 : (0 : Int) ≤ (j : Int) := by omega
      obtain ⟨u, hu⟩ : ∃ u, u = l.getD j kn0 := ⟨_, rfl⟩
      have hmem : u ∈ l := by rw [hu]; simp [List.getD, hjl]
      have hok : u.a.ok := H.out.ok u hmem
      have HE : Hid (KnAt wr g (j * 36) u) := by
        have := (H.out.below HR.out.2.2).elem hjl
        rw [← hu] at this
        exact this
      have HD : Hid (l.drop j = u :: l.drop (j + 1)) := by rw [hu]; exact drop_cons hjl
      clear hu
      go_wp2
      refine wp_ldN (T := 165) g (j * 36) (by rfl) (by rfl) (by exact HE.out) (by exact Tryz.underlying165) (by rfl) (by rw [Tryz.sizeG, knC_len hok]) ?_
      obtain ⟨cu, hcu⟩ : ∃ cu, cu = (knC u).toArray := ⟨_, rfl⟩
      have HCU : Hid (cu = (knC u).toArray) := hcu
      rw [← hcu]
      clear hcu
      go_wp2
      refine wp_stN (T := 165) wr.heap.size (by rfl) (by rfl) (by rfl) (by exact heap_alloc_new _ _) (by rw [HCU.out, Tryz.sizeG]; simp [knC_len hok]) (by rw [HCU.out]; simp [knC_len hok]) (by rw [HCU.out]; exact knC_one u) ?_
      rintro W1 hW1 hF1
      have HS : Hid (Seen w w.heap.size t wr.heap.size u W1) := by
        have hs := HR.out.2.2.size
        have hl1 := blk_lt HR.out.2.1
        refine ⟨hF1.blk ((Below.heap_alloc _ _ _ hl1).trans HR.out.2.1) (by omega), by rw [HCU.out] at hW1; exact hW1, HR.out.2.2.trans (((Below.refl _ wr).alloc hs _).trans (hF1.below (by omega) (by simp; omega)))⟩
      clear hW1 hF1
      go_wp2
      refine wp_ldN (T := 163) w.heap.size 0 (by rfl) (by rfl) (by exact HS.out.t.at) (by exact Tryz.underlying163) (by rfl) (by rw [Tryz.sizeA, atC_len ht]) ?_
      go_wp2_with fail
      refine (later_any W1 wr.heap.size u t HS.out.u hok).mono ?_
      rintro e W2 ⟨rfl, hb2⟩
      have HS2 : Hid (Seen w w.heap.size t wr.heap.size u W2) := HS.out.below hb2
      clear hb2
      have HM : Hid (outerK t l = if u.later t && DeskM.share u.a.wrote t.read && u.missedFor t then u.a.ticket else outerK t (l.drop (j + 1))) := by show _ = _; rw [HR.out.1, HD.out]; rfl
      cases hlat : u.later t
      · skip
        go_wp2
        go_roundw
        case rel => exact ⟨j + 1, by omega, by go_num, by rw [HM.out, hlat]; rfl, HS2.out.t, HS2.out.bel⟩
        case measure => simp [intOf]; omega
      · skip
        go_wp2
        refine wp_ldN (T := 103) wr.heap.size 18 (by rfl) (by rfl) (by have h := HS2.out.u.at.at.wrote hok; rw [Nat.zero_add] at h; exact h) (by exact Tryz.underlying103) (by rfl) (by rw [Tryz.sizeK, length_rdCells, hok.2]) ?_
        go_wp2
        refine wp_ldN (T := 103) w.heap.size 2 (by rfl) (by rfl) (by have h := HS2.out.t.at.read ht; rw [Nat.zero_add] at h; exact h) (by exact Tryz.underlying103) (by rfl) (by rw [Tryz.sizeK, length_rdCells, ht.1]) ?_
        go_wp2_with fail
        refine (meet_any u.a.wrote t.read hok.2 ht.1 W2).mono ?_
        rintro e W3 ⟨rfl, hb3⟩
        have HS3 : Hid (Seen w w.heap.size t wr.heap.size u W3) := HS2.out.below hb3
        clear hb3
        cases hsh : DeskM.share u.a.wrote t.read
        · skip
          go_wp2
          go_roundw
          case rel => exact ⟨j + 1, by omega, by go_num, by rw [HM.out, hlat, hsh]; rfl, HS3.out.t, HS3.out.bel⟩
          case measure => simp [intOf]; omega
        · go_wp2
          refine wp_ldN (T := 163) w.heap.size 0 (by rfl) (by rfl) (by exact HS3.out.t.at) (by exact Tryz.underlying163) (by rfl) (by rw [Tryz.sizeA, atC_len ht]) ?_
          go_wp2_with fail
          refine (missedFor_any W3 wr.heap.size u t HS3.out.u hok ht).mono ?_
          rintro e W4 ⟨rfl, hb4⟩
          have HS4 : Hid (Seen w w.heap.size t wr.heap.size u W4) := HS3.out.below hb4
          have ct4 := HS4.out.u.at.at.tick
          clear hb4
          cases hms : u.missedFor t
          · skip
            go_wp2
            go_roundw
            case rel => exact ⟨j + 1, by omega, by go_num, by rw [HM.out, hlat, hsh, hms]; rfl, HS4.out.t, HS4.out.bel⟩
            case measure => simp [intOf]; omega
          · have HZ : Hid (outerK t l = u.a.ticket) := by show _ = _; rw [HM.out, hlat, hsh, hms]; rfl
            go_wp2
            go_ret
            exact ⟨by rw [HZ.out]; rfl, HS4.out.bel⟩
    · obtain rfl : j = n := by omega
      have HZ : Hid (outerK t l = 0) := by show _ = _; rw [HR.out.1, HN.out, List.drop_length]; rfl
      go_wp2
      go_ret
      exact ⟨by rw [HZ.out]; rfl, HR.out.2.2⟩
end Go.Proofs.YtlbmcdoldnajoaaGreat
