import Derived.Test.YtlbmcdoldnajoabKFunA

namespace Go.Proofs.Ytlbmcdoldnajoab
open Go.RowKit
theorem idleB_succ (R : RM) (j : Nat) : R.idleB (j + 1) = (R.idleB j && decide (R.at_.getD j 0 = 0)) := by
  unfold RM.idleB
  rw [List.range_succ, List.all_append]
  simp
theorem hurryB_succ (R : RM) (j : Nat) : R.hurryB (j + 1) = (R.hurryB j || (!R.doneB (j + 1) && decide (R.c.patience < (R.tk (j + 1)).fails))) := by
  unfold RM.hurryB
  rw [List.range_succ, List.any_append]
  simp
section
variable {o : Nat → Option Nat} {w : World} {b : Nat} {R : RM} {v : KV}
set_option maxRecDepth 100000 in
set_option maxHeartbeats 400000 in
theorem takes_k (h : KP o w b R v) (hS : RSm R) :
    Calls Try.prog 48 #[ptrV b] w fun e w' => e = .returned (.bool R.takesB) ∧ Below w.heap.size w w' := by
  have H : Hid (KP o w b R v ∧ RSm R) := ⟨h, hS⟩
  obtain ⟨ta, tc, htv⟩ := owns_form (h.tasks nX).1
  obtain ⟨aa, ac, hav⟩ := owns_form (h.at_ nX).1
  have c7 : w.cell? ⟨b, 7, none⟩ = some v.av := h.cell 7
  rw [hav] at c7
  have harow := (h.at_ nX).1
  rw [hav] at harow
  have h1 := hS.tasks
  have h3 := hS.at_
  obtain ⟨n, hn⟩ : ∃ n, n = R.tasks.length := ⟨_, rfl⟩
  obtain ⟨r, hr⟩ : ∃ r, r = R.at_.length := ⟨_, rfl⟩
  have HN : Hid (n = R.tasks.length ∧ r = R.at_.length) := ⟨hn, hr⟩
  have HTV : Hid (v.tv = .slice ta R.tasks.length tc) := htv
  rw [← hn] at h1
  rw [← hr] at h3 c7 harow
  have HARow : Hid (w.ownsRow 0 3 1 (.slice aa r ac) r (R.at_.map natV)) := harow
  have HT : Hid (R.takesB = (decide (0 < R.waitI) && (R.idleB r || !R.hurryB n))) := by show _ = _; rw [RM.takesB, hn, hr]
  unfold ptrV
  clear h hS hn hr htv hav harow
  go_enter Try.func48, Try.ntmps48
  go_wp2
  go_loop [3, 4] (fun c i => ∃ j : Nat, j ≤ r ∧ i = .int .i64 j ∧ c = .bool (R.idleB j)) (fun _ i => r - (intOf i).toNat)
  case atStart => exact ⟨0, Nat.zero_le _, rfl, rfl⟩
  case round =>
    obtain ⟨j, hj, rfl, rfl⟩ := hrel
    by_cases hlt : j < r
    · have hjl : j < R.at_.length := by rw [← HN.out.2]; exact hlt
      have HS : Hid (R.idleB (j + 1) = (R.idleB j && decide (R.at_.getD j 0 = 0))) := idleB_succ R j
      obtain ⟨g, hg⟩ := owns_blk HARow.out (by omega)
      subst hg
      have cp := nat_row HARow.out (j := j) hjl HN.out.2
      have m1 : (j : Int) < (r : Int) := by omega
      generalize R.at_.getD j 0 = tn at cp HS
      clear hjl
      cases hid : R.idleB j
      · go_wp2
        go_round
        case rel => exact ⟨j + 1, by omega, by go_num, by rw [HS.out, hid]; rfl⟩
        case measure => simp [intOf]; omega
      · by_cases ht : tn = 0
        · subst ht
          go_wp2
          go_round
          case rel => exact ⟨j + 1, by omega, by go_num, by rw [HS.out, hid]; rfl⟩
          case measure => simp [intOf]; omega
        · have m2 : ¬ (tn : Int) = 0 := by omega
          go_wp2
          go_round
          case rel => exact ⟨j + 1, by omega, by go_num, by rw [HS.out, hid]; simp [ht]⟩
          case measure => simp [intOf]; omega
    · obtain rfl : j = r := by omega
      obtain ⟨idl, hidl⟩ : ∃ x, x = R.idleB j := ⟨_, rfl⟩
      rw [← hidl] at HT ⊢
      clear hidl HARow
      go_wp2
      clear c7
      go_loopw [5, 6] (fun c i wr => ∃ k : Nat, k ≤ n ∧ i = .int .i64 ((k : Int) + 1) ∧ c = .bool (R.hurryB k) ∧ Below w.heap.size w wr) (fun _ i _ => n + 1 - (intOf i).toNat)
      case atStart => exact ⟨0, Nat.zero_le _, rfl, rfl, Below.refl _ _⟩
      case round =>
        obtain ⟨k, hk, rfl, rfl, hb⟩ := hrel
        have HB : Hid (Below w.heap.size w wr) := hb
        have hkp := H.out.1.below hb
        have HK : Hid (KP o wr b R v) := hkp
        have c5 : wr.cell? ⟨b, 5, none⟩ = some v.tv := hkp.cell 5
        rw [HTV.out, ← HN.out.1] at c5
        by_cases hlt2 : k < n
        · have hkl : k < R.tasks.length := by rw [← HN.out.1]; exact hlt2
          have HS : Hid (R.hurryB (k + 1) = (R.hurryB k || (!R.doneB (k + 1) && decide (R.c.patience < (R.tk (k + 1)).fails)))) := hurryB_succ R k
          have hrow := (hkp.tasks nX).1
          rw [HTV.out, ← HN.out.1] at hrow
          obtain ⟨g, hg⟩ := owns_blk hrow (by omega)
          subst hg
          have hbl : v.tb.length = n := by rw [HN.out.1]; exact hkp.bl
          have cp := ptr_row hrow (j := k) (by rw [hbl]; exact hlt2) hbl.symm
          have ct : wr.cell? ⟨v.tb.getD k 0, 2, none⟩ = some (.int .i64 ((R.tk (k + 1)).fails : Int)) := hkp.cTk hkl 2
          have c4 : wr.cell? ⟨b, 4, none⟩ = some (.int .i64 (R.c.patience : Int)) := hkp.cell 4
          have hD := done_k hkp H.out.2 (n := k + 1) (by omega) (by omega)
          rw [show ((k + 1 : Nat) : Int) = (k : Int) + 1 by omega] at hD
          unfold ptrV at hD
          have m1 : (k : Int) + 1 ≤ (n : Int) := by omega
          have m2 : (k : Int) < (n : Int) := by omega
          have hwr : IntKind.i64.wrap ((k : Int) + 1 - 1) = (k : Int) := by rw [IntKind.wrap_i64]; omega
          generalize v.tb.getD k 0 = tb at cp ct
          generalize (R.tk (k + 1)).fails = fl at ct HS
          generalize R.c.patience = pa at c4 HS
          clear hb hkp hrow hbl hkl
          go_wp2_with fail
          refine hD.mono ?_
          clear hD
          rintro e W2 ⟨rfl, hW⟩
          obtain rfl := hW.symm
          clear hW
          cases hh : R.hurryB k
          · cases hd : R.doneB (k + 1)
            · by_cases hp : pa < fl
              · have m3 : (pa : Int) < (fl : Int) := by omega
                go_wp2
                go_quiet (fail)
                go_wp2
                go_roundw
                case rel => exact ⟨k + 1, by omega, by go_num, by rw [HS.out, hh, hd]; simp [hp], below_drewN HB.out _⟩
                case measure => simp [intOf]; omega
              · have m3 : ¬ (pa : Int) < (fl : Int) := by omega
                go_wp2
                go_quiet (fail)
                go_wp2
                go_roundw
                case rel => exact ⟨k + 1, by omega, by go_num, by rw [HS.out, hh, hd]; simp [hp], below_drewN HB.out _⟩
                case measure => simp [intOf]; omega
            · go_wp2
              go_quiet (fail)
              go_wp2
              go_roundw
              case rel => exact ⟨k + 1, by omega, by go_num, by rw [HS.out, hh, hd]; rfl, below_drewN HB.out _⟩
              case measure => simp [intOf]; omega
          · go_wp2
            go_quiet (fail)
            go_wp2
            go_roundw
            case rel => exact ⟨k + 1, by omega, by go_num, by rw [HS.out, hh]; rfl, below_drewN HB.out _⟩
            case measure => simp [intOf]; omega
        · obtain rfl : k = n := by omega
          have m1 : ¬ (k : Int) + 1 ≤ (k : Int) := by omega
          have hW := waiting_k hkp H.out.2
          unfold ptrV at hW
          clear hb hkp
          generalize R.hurryB k = hu at HT ⊢
          generalize R.waitI = wi at HT hW
          go_wp2_with fail
          refine hW.mono ?_
          clear hW
          rintro e W2 ⟨rfl, hb2⟩
          have HB2 : Hid (Below w.heap.size w W2) := HB.out.trans (hb2.mono HB.out.size)
          clear hb2
          by_cases hz : 0 < wi
          · cases idl
            · cases hu
              · have HT2 : Hid (R.takesB = true) := by show _ = _; rw [HT.out]; simp [hz]
                go_wp2
                go_ret
                exact ⟨by rw [HT2.out]; rfl, HB2.out⟩
              · have HT2 : Hid (R.takesB = false) := by show _ = _; rw [HT.out]; simp
                go_wp2
                go_ret
                exact ⟨by rw [HT2.out]; rfl, HB2.out⟩
            · have HT2 : Hid (R.takesB = true) := by show _ = _; rw [HT.out]; simp [hz]
              go_wp2
              go_ret
              exact ⟨by rw [HT2.out]; rfl, HB2.out⟩
          · have HT2 : Hid (R.takesB = false) := by show _ = _; rw [HT.out]; simp [hz]
            go_wp2
            go_ret
            exact ⟨by rw [HT2.out]; rfl, HB2.out⟩
/-- what a call leaves: the run is R' -/
def KStp (o : Nat → Option Nat) (w : World) (b : Nat) (R' : RM) (w' : World) : Prop := ∃ o' v', KP o' w' b R' v' ∧ Own w o o' ∧ Fr (MineK o) w w'
/-- and hands nothing back -/
def KDone (o : Nat → Option Nat) (w : World) (b : Nat) (R' : RM) (e : Ending) (w' : World) : Prop := e = .returned (.tuple #[]) ∧ KStp o w b R' w'
/-- where a walk stands: the run is R1 -/
structure KNow (o : Nat → Option Nat) (w : World) (b : Nat) (o1 : Nat → Option Nat) (W : World) (R1 : RM) (v1 : KV) : Prop where
  kp : KP o1 W b R1 v1
  own : Own w o o1
  fr : Fr (MineK o) w W
end
namespace KNow
variable {o o1 o2 : Nat → Option Nat} {w W W2 : World} {b : Nat} {R1 R2 : RM} {v1 v2 : KV}
theorem start (h : KP o w b R1 v1) : KNow o w b o w R1 v1 := ⟨h, Own.refl _ _, Fr.refl _ _⟩
theorem size (h : KNow o w b o1 W R1 v1) : w.heap.size ≤ W.heap.size := h.fr.size
theorem upd (h : KNow o w b o1 W R1 v1) (hk : KP o2 W2 b R2 v2) (ho : Own W o1 o2) (hf : Fr (MineK o1) W W2) : KNow o w b o2 W2 R2 v2 :=
  ⟨hk, h.own.trans ho h.size, h.fr.mineK hf h.own⟩
theorem step (h : KNow o w b o1 W R1 v1) (hk : KP o1 W2 b R2 v2 ∧ Fr (MineK o1) W W2) : KNow o w b o1 W2 R2 v2 := h.upd hk.1 (Own.refl _ _) hk.2
theorem below (h : KNow o w b o1 W R1 v1) (hb : Below W.heap.size W W2) : KNow o w b o1 W2 R1 v1 := h.upd (h.kp.below hb) (Own.refl _ _) (Fr.of_below hb)
theorem stp (h : KNow o w b o1 W R1 v1) (hs : KStp o1 W b R2 W2) : ∃ o2 v2, KNow o w b o2 W2 R2 v2 := by
  obtain ⟨o2, v2, h1, h2, h3⟩ := hs
  exact ⟨o2, v2, h.upd h1 h2 h3⟩
theorem done (h : KNow o w b o1 W R1 v1) : KStp o w b R1 W := ⟨o1, v1, h.kp, h.own, h.fr⟩
end KNow
end Go.Proofs.Ytlbmcdoldnajoab
namespace Go.Proofs.Ytlbmcdoldnajoab
open Go.RowKit
theorem own_ne {o : Nat → Option Nat} {a c p q : Nat} (h1 : o a = some p) (h2 : o c = some q) (hne : p ≠ q) : ¬ a = c := fun e => by
  rw [e, h2] at h1
  injection h1 with h1
  exact hne h1.symm
theorem owns_free {w : World} {B : Nat} {e : TypeId} {s : Nat} {g n cap : Nat} {xs : List Value} (h : w.ownsRow B e s (.slice (some ⟨g, 0, none⟩) n cap) n xs) (i : Nat) : w.frozen? ⟨g, i, none⟩ = false := by
  rcases h.2 with ⟨h, _⟩ | ⟨g', cap', cur, h, _, hh, _⟩
  · cases h
  · injection h with h _ _
    injection h with h
    injection h with h
    subst h
    exact blk_free hh
/-- a worker's place in the run -/
structure AtPl (o : Nat → Option Nat) (w : World) (b : Nat) (R : RM) (v : KV) (g cap : Nat) : Prop where
  av : v.av = .slice (some ⟨g, 0, none⟩) R.at_.length cap
  own : o g = some 3
  cell : ∀ i, i < R.at_.length → w.cell? ⟨g, i, none⟩ = some (.int .i64 (R.at_.getD i 0 : Int))
  free : ∀ i, w.frozen? ⟨g, i, none⟩ = false
  c7 : w.cell? ⟨b, 7, none⟩ = some (.slice (some ⟨g, 0, none⟩) R.at_.length cap)
theorem KP.atPl {o : Nat → Option Nat} {w : World} {b : Nat} {R : RM} {v : KV} (h : KP o w b R v) (h0 : 0 < R.at_.length) : ∃ g cap, AtPl o w b R v g cap := by
  have hr := (h.at_ nX).1
  obtain ⟨g, cap, hv, _, _⟩ := owns_pos hr h0
  have c7 : w.cell? ⟨b, 7, none⟩ = some v.av := h.cell 7
  rw [hv] at c7 hr
  exact ⟨g, cap, hv, (h.at_ nX).2 g (by rw [hv]; rfl), fun i hi => nat_row hr hi rfl, owns_free hr, c7⟩
/-- a task's place in the run -/
structure TkPl (o : Nat → Option Nat) (w : World) (b : Nat) (R : RM) (v : KV) (j g cap tb : Nat) : Prop where
  tv : v.tv = .slice (some ⟨g, 0, none⟩) R.tasks.length cap
  own : o g = some 1
  cell : w.cell? ⟨g, j, none⟩ = some (.pointer (some ⟨tb, 0, none⟩))
  c5 : w.cell? ⟨b, 5, none⟩ = some (.slice (some ⟨g, 0, none⟩) R.tasks.length cap)
  tbe : tb = v.tb.getD j 0
  town : o tb = some (5 + 3 * j)
  tcell : ∀ i, w.cell? ⟨tb, i, none⟩ = (tkC (R.tk (j + 1)) (v.sv.getD j nilV) (v.fv.getD j nilV))[i]?
  tfree : ∀ i, w.frozen? ⟨tb, i, none⟩ = false
theorem KP.tkPl {o : Nat → Option Nat} {w : World} {b : Nat} {R : RM} {v : KV} (h : KP o w b R v) {j : Nat} (hj : j < R.tasks.length) : ∃ g cap tb, TkPl o w b R v j g cap tb := by
  have hr := (h.tasks nX).1
  obtain ⟨g, cap, hv, _, _⟩ := owns_pos hr (by omega)
  have c5 : w.cell? ⟨b, 5, none⟩ = some v.tv := h.cell 5
  rw [hv] at c5 hr
  exact ⟨g, cap, v.tb.getD j 0, hv, (h.tasks nX).2 g (by rw [hv]; rfl), ptr_row hr (by rw [h.bl]; exact hj) h.bl.symm, c5, rfl, (h.tb j hj nX).1, fun i => h.cTk hj i, fun i => blk_free (h.task hj)⟩
theorem at_get {R : RM} (h : KInv R) {i : Nat} (hi : i < R.d.c.workers) : R.at_.getD i 0 = (R.d.wk i).ticket := by
  rw [← h.inv.wlen] at hi
  rw [h.at_]
  simp [DeskM.wk, List.getD, hi]
theorem at_len {R : RM} (h : KInv R) : R.at_.length = R.d.c.workers := by rw [h.at_, List.length_map, h.inv.wlen]
theorem KOk.sm {N : Nat} {R : RM} (h : KOk N R) (hN : N ≤ 900000000) : RSm R := by
  refine ⟨by have := h.len; omega, ?_, ?_⟩
  · rw [h.k.order, List.length_map]
    have := goods_le h.k.inv
    have := h.k.len
    have := h.len
    omega
  · rw [at_len h.k]; have := h.k.inv.conf; omega
theorem KOk.ask {N : Nat} {R : RM} (h : KOk N R) (hN : N ≤ 900000000) : Ask R.d := ⟨h.k.inv, h.k.urg, h.bd hN⟩
theorem kill_err {d : DeskM} {i : Nat} (hi : i < d.c.workers) : (d.kill i).2 = if (d.wk i).ticket = 0 then 7 else 0 := by
  have hw : d.workerB (i : Int) = true := by simp [DeskM.workerB]; exact hi
  unfold DeskM.kill
  rw [if_neg (by rw [hw]; simp), Int.toNat_natCast]
  simp only
  show (if (d.wk i).ticket = 0 then _ else _ : DeskM × Int).2 = _
  split <;> rfl
theorem kill_none {d : DeskM} {i : Nat} (hi : i < d.c.workers) (h0 : (d.wk i).ticket = 0) : (d.kill i).1 = d := by
  have hw : d.workerB (i : Int) = true := by simp [DeskM.workerB]; exact hi
  unfold DeskM.kill
  rw [if_neg (by rw [hw]; simp), Int.toNat_natCast]
  simp only
  show (if (d.wk i).ticket = 0 then _ else _ : DeskM × Int).1 = _
  rw [if_pos h0]
section
variable {o : Nat → Option Nat} {w : World} {b : Nat} {R : RM} {v : KV}
set_option maxRecDepth 100000 in
set_option maxHeartbeats 400000 in
theorem kill_k {N : Nat} (h : KP o w b R v) (hk : KOk N R) (hN : N ≤ 900000000) {i : Nat} (hi : i < R.d.c.workers) :
    Calls Try.prog 33 #[ptrV b, .int .i64 (i : Int)] w fun e w' => KDone o w b (R.killR i) e w' := by
  have hKill := pkill_ok (fun k => grow w o 4 k = some 4) w R.xb R.d (i : Int) h.deskAt (hk.ask hN) (fun k hk => grow_new hk)
  have c0 : w.cell? ⟨b, 0, none⟩ = some (.pointer (some ⟨R.xb, 0, none⟩)) := h.cell 0
  have H : Hid (KP o w b R v) := h
  obtain ⟨n, hn⟩ : ∃ n, n = (R.d.wk i).ticket := ⟨_, rfl⟩
  have HE : Hid ((R.d.kill i).2 = if n = 0 then 7 else 0) := by rw [hn]; exact kill_err hi
  have hia : i < R.at_.length := by rw [at_len hk.k]; exact hi
  have HA : Hid (R.at_.getD i 0 = n ∧ i < R.at_.length ∧ (n ≠ 0 → 1 ≤ n ∧ n ≤ R.tasks.length)) := by
    refine ⟨by rw [hn]; exact at_get hk.k hi, hia, fun h0 => ?_⟩
    have := hk.k.inv.work i hi (by rw [← hn]; exact h0)
    rw [← hn] at this
    exact ⟨this.1.1, by rw [hk.k.len]; exact this.1.2⟩
  have hkl : (R.tk n).kills ≤ 900000000 := Nat.le_trans (hk.kills n) hN
  have hal : R.at_.length ≤ 1000 := (hk.sm hN).at_
  have htl : R.tasks.length ≤ 900000000 := (hk.sm hN).tasks
  have HR : Hid ((n = 0 → R.killR i = R ∧ (R.d.kill i).1 = R.d) ∧ (n ≠ 0 → R.killR i = { R with d := (R.d.kill i).1, at_ := R.at_.set i 0, tasks := R.tasks.set (n - 1) { R.tk n with kills := (R.tk n).kills + 1 } })) := by
    refine ⟨fun h0 => ⟨?_, kill_none hi (by rw [← hn]; exact h0)⟩, fun h0 => ?_⟩
    · unfold RM.killR; simp only; rw [← hn, if_pos h0]
    · unfold RM.killR; simp only; rw [← hn, if_neg h0]
  generalize (R.d.kill i).2 = er at *
  obtain ⟨d', hd'⟩ : ∃ d', d' = (R.d.kill i).1 := ⟨_, rfl⟩
  rw [← hd'] at hKill HR
  unfold ptrV at *
  clear h hk hi hn hd' hia
  go_enter Try.func33, Try.ntmps33
  go_wp2_with fail
  refine hKill.mono ?_
  clear hKill c0
  rintro e W1 ⟨rfl, hd, hf⟩
  have hs := H.out.deskStep hd hf
  have HW : Hid (KNow o w b (grow w o 4) W1 { R with d := d' } v) := (KNow.start H.out).upd hs.1 (own_grow _ _ _) hs.2
  clear hd hf hs H
  obtain ⟨g, cap, hpl⟩ := HW.out.kp.atPl (by have := HA.out.2.1; show 0 < R.at_.length; omega)
  have c7 := hpl.c7
  have ca := hpl.cell i HA.out.2.1
  have fa := hpl.free i
  have c8 : W1.cell? ⟨b, 8, none⟩ = some (.bool true) := HW.out.kp.cell 8
  have f8 := HW.out.kp.free 8
  have hgb : ¬ g = b := own_ne hpl.own (HW.out.kp.blk nX).1 (by omega)
  have hbg : ¬ b = g := fun e => hgb e.symm
  have m1 : (i : Int) < (R.at_.length : Int) := by have := HA.out.2.1; omega
  have HAV : Hid (v.av = .slice (some ⟨g, 0, none⟩) R.at_.length cap) := hpl.av
  simp only at c7 ca
  rw [HA.out.1] at ca
  obtain ⟨al, hal'⟩ : ∃ al, al = R.at_.length := ⟨_, rfl⟩
  rw [← hal'] at c7 m1 hal
  by_cases hn0 : n = 0
  · subst hn0
    have he := HE.out
    rw [if_pos rfl] at he
    subst he
    have HH : Hid (R.killR i = R ∧ d' = R.d) := HR.out.1 rfl
    clear hpl hal' HR
    go_wp2
    go_end0
    rw [HH.out.1]
    have hx := HW.out.step HW.out.kp.setOk
    rw [HH.out.2] at hx
    exact ⟨rfl, hx.done⟩
  · have he := HE.out
    rw [if_neg hn0] at he
    subst he
    have hnt := HA.out.2.2 hn0
    obtain ⟨j, rfl⟩ : ∃ j, n = j + 1 := ⟨n - 1, by omega⟩
    have hj : j < R.tasks.length := by omega
    obtain ⟨gt, tcap, tb, htp⟩ := HW.out.kp.tkPl (j := j) hj
    have c5 := htp.c5
    have cp := htp.cell
    have ck : W1.cell? ⟨tb, 1, none⟩ = some (.int .i64 ((R.tk (j + 1)).kills : Int)) := htp.tcell 1
    have ft := htp.tfree 1
    have q1 : ¬ gt = g := own_ne htp.own hpl.own (by omega)
    have q2 : ¬ g = gt := fun e => q1 e.symm
    have q3 : ¬ gt = b := own_ne htp.own (HW.out.kp.blk nX).1 (by omega)
    have q4 : ¬ b = gt := fun e => q3 e.symm
    have q5 : ¬ tb = g := own_ne htp.town hpl.own (by omega)
    have q6 : ¬ g = tb := fun e => q5 e.symm
    have q7 : ¬ tb = b := own_ne htp.town (HW.out.kp.blk nX).1 (by omega)
    have q8 : ¬ b = tb := fun e => q7 e.symm
    have q9 : ¬ tb = gt := own_ne htp.town htp.own (by omega)
    have q10 : ¬ gt = tb := fun e => q9 e.symm
    have HTB : Hid (tb = v.tb.getD j 0 ∧ j < R.tasks.length) := ⟨htp.tbe, hj⟩
    simp only at c5
    obtain ⟨tl, htl'⟩ : ∃ tl, tl = R.tasks.length := ⟨_, rfl⟩
    rw [← htl'] at c5 hj htl
    obtain ⟨z, hz⟩ : ∃ z : Int, z = ((j + 1 : Nat) : Int) := ⟨_, rfl⟩
    rw [← hz] at ca
    have hz0 : ¬ z = 0 := by omega
    have hwr : IntKind.i64.wrap (z - 1) = (j : Int) := by rw [IntKind.wrap_i64]; omega
    have m2 : (j : Int) < (tl : Int) := by omega
    obtain ⟨kl, hkl'⟩ : ∃ kl, kl = (R.tk (j + 1)).kills := ⟨_, rfl⟩
    rw [← hkl'] at ck hkl
    have hwk : IntKind.i64.wrap ((kl : Int) + 1) = ((kl + 1 : Nat) : Int) := by rw [IntKind.wrap_i64]; omega
    have HKL : Hid (kl = (R.tk (j + 1)).kills) := hkl'
    have HH : Hid (R.killR i = { R with d := d', at_ := R.at_.set i 0, tasks := R.tasks.set j { R.tk (j + 1) with kills := (R.tk (j + 1)).kills + 1 } }) := HR.out.2 hn0
    clear hpl htp hal' htl' hz hkl' hnt HR
    go_wp2
    go_end0
    rw [HH.out]
    have k1 := HW.out.step HW.out.kp.setOk
    have k2 := k1.step (k1.kp.setAt HAV.out i 0)
    have k3 := k2.step (k2.kp.setTk (i := j) HTB.out.2 (c := 1) (x := .int .i64 ((kl + 1 : Nat) : Int)) (t' := { R.tk (j + 1) with kills := (R.tk (j + 1)).kills + 1 }) (by rw [HKL.out]; rfl) rfl rfl)
    rw [HTB.out.1]
    exact ⟨rfl, k3.done⟩
end
end Go.Proofs.Ytlbmcdoldnajoab
