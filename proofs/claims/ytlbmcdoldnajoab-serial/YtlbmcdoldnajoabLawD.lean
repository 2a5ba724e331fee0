import Derived.Test.YtlbmcdoldnajoabPFunJ
import Derived.Test.YtlbmcdoldnajoabRefD

namespace Go.Proofs.Ytlbmcdoldnajoab
open Go.RowKit
attribute [local go_sem ↓] wStM wStR wLdM wLdR wLdK wStK wLdA wStA wLdG wStG wLdW wStW
section
variable {o : Nat → Option Nat} {w : World} {b : Nat} {p : PM} {v : PV}
/-- what a call that hands back a number leaves -/
def Told1 (o : Nat → Option Nat) (w : World) (b : Nat) (v : PV) (p' : PM) (r : Int) (e : Ending) (w' : World) : Prop := e = .returned (.int .i64 r) ∧ Stp o w b v.ts v.wb p' w'
set_option maxRecDepth 100000 in
set_option maxHeartbeats 400000 in
theorem kill_pd (h : PD o w b p v) (hF : Fits p) (n : Int) :
    Calls Try.prog 52 #[ptrV b, .int .i64 n] w fun e w' => Told1 o w b v (p.kill n).1 (p.kill n).2 e w' := by
  have H : Hid (PD o w b p v) := h
  have HF : Hid (Fits p) := hF
  clear hF
  by_cases hn : 0 ≤ n ∧ n < p.workers.length
  · obtain ⟨i, rfl⟩ : ∃ i : Nat, n = i := ⟨n.toNat, by omega⟩
    have hi : i < p.workers.length := by omega
    have hWk := worker_yes H.out hi
    have cw := H.out.cWkT hi
    unfold ptrV at *
    clear h hn
    by_cases hz : (p.wk i).ticket = 0
    · rw [hz, show tkO v.ts 0 = .pointer none from rfl] at cw
      have HK : Hid (p.kill (i : Int) = (p, 7)) := by
        show _ = _
        unfold PM.kill
        rw [if_neg (by simpa using hi), Int.toNat_natCast]
        simp only
        rw [if_pos hz]
      go_enter Try.func52, Try.ntmps52
      go_wp2_with fail
      refine hWk.mono ?_
      clear hWk
      rintro e W1 ⟨rfl, hW⟩
      obtain rfl := hW.symm
      clear hW
      go_wp2
      go_ret
      rw [HK.out]
      exact ⟨rfl, Stp.same H.out (Below.refl _ _)⟩
    · have ht2 := HF.out.wk i hi
      obtain ⟨n, hn⟩ : ∃ n, n = (p.wk i).ticket := ⟨_, rfl⟩
      rw [← hn] at hz ht2 cw
      obtain ⟨j, hj⟩ : ∃ j, n = j + 1 := ⟨n - 1, by omega⟩
      have hjl : j < p.tasks.length := by omega
      have HNJ : Hid (n = j + 1 ∧ n = (p.wk i).ticket ∧ j < p.tasks.length) := ⟨hj, hn, hjl⟩
      obtain ⟨tk, htk⟩ : ∃ tk, tk = p.tasks.getD j task0 := ⟨_, rfl⟩
      obtain ⟨tb, htb⟩ : ∃ tb, tb = v.ts.getD j 0 := ⟨_, rfl⟩
      have HTB : Hid (tb = v.ts.getD j 0 ∧ tkV v.ts n = .pointer (some ⟨tb, 0, none⟩)) := ⟨htb, by rw [tkV, hj, htb]; rfl⟩
      have e0 : tkO v.ts n = .pointer (some ⟨tb, 0, none⟩) := by rw [tkO, if_neg hz]; exact HTB.out.2
      rw [e0] at cw
      have htkb : w.heap[tb]? = some (.cells (taskC j tk (v.sv.getD j nilV) (v.tv.getD j nilV)) 99 (0, 0)) := by rw [htb, htk]; exact H.out.task hjl
      have c1 : w.cell? ⟨tb, 1, none⟩ = some (.int .i64 tk.state) := by rw [blk_cell htkb]; rfl
      have f1 : ∀ k, w.frozen? ⟨tb, k, none⟩ = false := fun k => blk_free htkb
      obtain ⟨q, hq⟩ : ∃ q : PM, q = { p with tasks := p.tasks.set j { tk with state := 1 } } := ⟨_, rfl⟩
      have HQ : Hid (p.kill (i : Int) = ((if q.isUrgent n then q else { q with queue := n :: q.queue }).rest i, 0) ∧ i < q.workers.length ∧ q.known.length ≤ 1000000000 ∧ q.workers.length ≤ 1000 ∧ q.queue.length ≤ 1000000000 ∧ j < q.tasks.length) := by
        have e : p.setTask n { p.task n with state := 1 } = q := by rw [hq, htk, PM.setTask, PM.task, hj, Nat.add_sub_cancel]
        refine ⟨?_, by rw [hq]; exact hi, by rw [hq]; have := HF.out.known; show p.known.length ≤ _; omega, by rw [hq]; exact HF.out.wks, by rw [hq]; exact HF.out.queue.1, by rw [hq]; simpa using hjl⟩
        unfold PM.kill
        rw [if_neg (by simpa using hi), Int.toNat_natCast]
        simp only
        rw [← hn, if_neg hz, e]
      have HX : Hid (∀ W, W = w.setCell ⟨tb, 1, none⟩ (.int .i64 1) → Now o w b v o W q v) := fun W hW => by
        have a1 := H.out.setTk (i := j) hjl (c := 1) (x := .int .i64 1) (t' := { tk with state := 1 }) (by rw [← htk]; rfl) (by rw [← htk]) (by rw [← htk])
        rw [← htb] at a1
        rw [hW, hq]
        exact (Now.start H.out).step a1 rfl rfl
      clear hn hj hjl htk htb e0 htkb hq
      obtain ⟨i0, hii, hz0, hz1, hz2⟩ := info_parts Try.infoTk
      go_enter Try.func52, Try.ntmps52
      go_wp2_with fail
      refine hWk.mono ?_
      clear hWk
      rintro e W1 ⟨rfl, hW⟩
      obtain rfl := hW.symm
      clear hW
      go_wp2_with fail
      refine name_calls (p := fun W => Now o w b v o W q v) (HX.out _ rfl) ?_
      rintro W1 hW1
      have HW1 : Hid (Now o w b v o W1 q v) := hW1
      clear hW1 HX c1 f1 cw
      have hiu := isUrgent_any HW1.out.pd HQ.out.2.2.2.2.2
      rw [← HTB.out.1, ← HNJ.out.1] at hiu
      unfold ptrV at hiu
      refine hiu.mono ?_
      clear hiu
      rintro e W2 ⟨rfl, hb2⟩
      have HW2 : Hid (Now o w b v o W2 q v) := HW1.out.below hb2
      clear hb2 HW1
      have hfin : Hid (∀ (p5 : PM) (o5 : Nat → Option Nat) (v5 : PV) (W5 : World), Now o w b v o5 W5 p5 v5 → p5.workers = q.workers → p5.known = q.known → Calls Try.prog 63 #[.pointer (some ⟨b, 0, none⟩), .pointer (some ⟨v.wb, i * 74, none⟩)] W5 fun e w' => e = .returned (.tuple #[]) ∧ Stp o w b v.ts v.wb (p5.rest i) w') := fun p5 o5 v5 W5 h5 e1 e2 => by
        have hR := rest_any (p := p5) (i := i) h5.pd (by rw [e1]; exact HQ.out.2.1) (by rw [e2]; exact HQ.out.2.2.1) (by rw [e1]; exact HQ.out.2.2.2.1)
        rw [h5.wb] at hR
        refine hR.mono ?_
        rintro e W6 ⟨rfl, hs⟩
        obtain ⟨o6, v6, h6⟩ := h5.stp hs
        exact ⟨rfl, h6.done⟩
      cases hu : q.isUrgent n
      · have HK : Hid (p.kill (i : Int) = (({ q with queue := n :: q.queue } : PM).rest i, 0)) := by show _ = _; rw [HQ.out.1, hu]; rfl
        obtain ⟨ra, rc, hrv⟩ := owns_form (HW2.out.pd.queue nX).1
        have c4 := HW2.out.pd.cQueue
        rw [hrv] at c4
        have HRV : Hid (v.qv = .slice ra q.queue.length rc ∧ W2.ownsRow 0 96 1 (.slice ra q.queue.length rc) q.queue.length (q.queue.map (tkV v.ts))) := ⟨hrv, by rw [← hrv]; exact (HW2.out.pd.queue nX).1⟩
        have hlb := HW2.out.pd.lt
        have fb := HW2.out.pd.free 39
        have hend : Hid (∀ (x : Value) (w' : World), w'.ownsRow W2.heap.size 96 1 x (q.queue.length + 1) (.pointer (some ⟨tb, 0, none⟩) :: q.queue.map (tkV v.ts)) → Below W2.heap.size W2 w' → Now o w b v (grow W2 o 2) (w'.setCell ⟨b, 39, none⟩ x) { q with queue := n :: q.queue } { v with qv := x }) := fun x w' ho hb => by
          have hs := HW2.out.pd.setQueue (own_grow W2 o 2) (w1 := w') (Fr.of_below hb) (x := x) (l := n :: q.queue) ⟨by rw [List.length_cons, List.map_cons, HTB.out.2]; exact owns_base ho (Nat.zero_le _), fun k hk => grow_new (owns_ge ho hk)⟩
          exact HW2.out.upd hs.1 (own_grow _ _ _) hs.2 rfl rfl
        have hown1 : Hid ((W2.alloc (.cells #[.pointer (some ⟨tb, 0, none⟩)] 96)).ownsRow W2.heap.size 96 1 (.slice (some ⟨W2.heap.size, 0, none⟩) 1 1) 1 [.pointer (some ⟨tb, 0, none⟩)]) := ⟨rfl, Or.inr ⟨W2.heap.size, 1, #[.pointer (some ⟨tb, 0, none⟩)], rfl, Nat.le_refl _, heap_alloc_new _ _, Nat.le_refl _, (by unfold maxLen; omega), rfl, rfl⟩⟩
        by_cases hL : q.queue.length = 0
        · have hqe : q.queue = [] := List.eq_nil_of_length_eq_zero hL
          rw [hL] at c4
          have hao : ra = none → rc = 0 := fun e => by
            rcases HRV.out.2.2 with ⟨h, _⟩ | ⟨g, cap, cur, h, _⟩
            · injection h with _ _ h
            · subst e; injection h with h; cases h
          have HW3 : Hid (Now o w b v (grow W2 o 2) ((W2.setCell ⟨b, 39, none⟩ (.slice (some ⟨W2.heap.size, 0, none⟩) 1 1)).alloc (.cells #[.pointer (some ⟨tb, 0, none⟩)] 96)) { q with queue := n :: q.queue } { v with qv := .slice (some ⟨W2.heap.size, 0, none⟩) 1 1 }) := by
            have := hend.out _ _ (by rw [hqe]; exact hown1.out) ((Below.refl _ _).alloc (Nat.le_refl _) _)
            rw [World.setCell_alloc_past _ _ _ _ hlb] at this
            exact this
          clear hrv hend
          cases ra with
          | none =>
            obtain rfl := hao rfl
            go_wp2_with (at_builtin; refine wpList_append_own_none (by rfl) _ _ 92 (by rfl) W2.heap.size 96 i0 1 Try.underlying92 hii _ _ _ (by rfl) hown1.out (by rfl) ?_)
            go_wp2_with fail
            refine (hfin.out _ _ _ _ HW3.out rfl rfl).mono ?_
            rintro e W6 ⟨rfl, hs⟩
            have HS : Hid (Stp o w b v.ts v.wb (({ q with queue := n :: q.queue } : PM).rest i) W6) := hs
            clear hs
            go_wp2
            go_ret
            rw [HK.out]
            exact ⟨rfl, HS.out⟩
          | some ad =>
            go_wp2_with fail
            refine (hfin.out _ _ _ _ HW3.out rfl rfl).mono ?_
            rintro e W6 ⟨rfl, hs⟩
            have HS : Hid (Stp o w b v.ts v.wb (({ q with queue := n :: q.queue } : PM).rest i) W6) := hs
            clear hs
            go_wp2
            go_ret
            rw [HK.out]
            exact ⟨rfl, HS.out⟩
        · obtain ⟨g, cap, hv, hgl, hcell⟩ := owns_pos HRV.out.2 (by omega)
          injection hv with h1 h2 h3
          subst h1
          obtain ⟨L, hLe⟩ : ∃ L, L = q.queue.length := ⟨_, rfl⟩
          have hll : L ≤ 1000000000 := by rw [hLe]; exact HQ.out.2.2.2.2.1
          have HLL : Hid (L = q.queue.length) := hLe
          rw [← hLe] at c4 hL
          have HC : Hid (∀ j u, (q.queue.map (tkV v.ts))[j]? = some u → W2.cell? ⟨g, j, none⟩ = some u) := fun j u hj => by
            have hlt : j < q.queue.length := by simpa using (List.getElem?_eq_some_iff.1 hj).1
            rw [hcell j (by omega)]; exact hj
          clear hcell h2 h3 hrv hLe
          go_wp2_with (at_builtin; refine wpList_append_lies _ (by rfl) _ _ 92 (by rfl) W2.heap.size 96 i0 _ 1 8 Try.underlying92 hii hz0 hz1 hz2 (by rfl) (by decide) _ _ _ (by rfl) hown1.out ⟨g, 0, none⟩ L rc (q.queue.map (tkV v.ts)) (by rfl) ?_ ?_ ?_ (by omega) ?_ ?_ ?_ _ (by rfl) ?_)
          · rw [HLL.out]; simp
          · intro j u hj
            rw [Addr.add_mid, Nat.zero_add]
            exact ((Below.refl W2.heap.size W2).alloc (Nat.le_refl _) _).cell (p := ⟨g, j, none⟩) hgl |>.trans (HC.out j u hj)
          · intro u hu; obtain ⟨k, _, rfl⟩ := List.mem_map.1 hu; rfl
          · unfold maxLen; omega
          · omega
          · simp
          · intro g1 cap1 w2 hown2 hgrow2 hat hlt2
            have hbel : Below W2.heap.size W2 w2 := ((Below.refl W2.heap.size W2).alloc (Nat.le_refl _) _).grown hgrow2 (by simp) (fun k hk => by injection hk with hk; exact Nat.le_of_eq hk)
            have HW3 : Hid (Now o w b v (grow W2 o 2) (w2.setCell ⟨b, 39, none⟩ (.slice (some ⟨g1, 0, none⟩) (1 + L) cap1)) { q with queue := n :: q.queue } { v with qv := .slice (some ⟨g1, 0, none⟩) (1 + L) cap1 }) := hend.out _ _ (by rw [← HLL.out, Nat.add_comm L 1]; exact hown2) hbel
            have k1 := (hbel.cell (p := ⟨b, 39, none⟩) hlb).trans c4
            have k2 : w2.frozen? ⟨b, 39, none⟩ = false := by rw [World.frozen?_of_block (w := W2) (hbel.block _ hlb)]; exact fb
            clear hown2 hgrow2 hat hlt2 hbel c4 fb hend
            go_wp2_with fail
            refine (hfin.out _ _ _ _ HW3.out rfl rfl).mono ?_
            rintro e W6 ⟨rfl, hs⟩
            have HS : Hid (Stp o w b v.ts v.wb (({ q with queue := n :: q.queue } : PM).rest i) W6) := hs
            clear hs
            go_wp2
            go_ret
            rw [HK.out]
            exact ⟨rfl, HS.out⟩
      · have HK : Hid (p.kill (i : Int) = (q.rest i, 0)) := by show _ = _; rw [HQ.out.1, hu]; rfl
        go_wp2_with fail
        refine (hfin.out q o v W2 HW2.out rfl rfl).mono ?_
        rintro e W6 ⟨rfl, hs⟩
        have HS : Hid (Stp o w b v.ts v.wb (q.rest i) W6) := hs
        clear hs
        go_wp2
        go_ret
        rw [HK.out]
        exact ⟨rfl, HS.out⟩
  · have HK : Hid (p.kill n = (p, 6)) := by
      show _ = _
      unfold PM.kill
      rw [if_pos (by simpa using hn)]
    have hWk := worker_no H.out n hn
    unfold ptrV at *
    clear h hn
    go_enter Try.func52, Try.ntmps52
    go_wp2_with fail
    refine hWk.mono ?_
    clear hWk
    rintro e W1 ⟨rfl, hW⟩
    obtain rfl := hW.symm
    clear hW
    go_wp2
    go_ret
    rw [HK.out]
    exact ⟨rfl, Stp.same H.out (Below.refl _ _)⟩
end
end Go.Proofs.Ytlbmcdoldnajoab
namespace Go.Proofs.Ytlbmcdoldnajoab
open Go.RowKit
/-- what Poll hands back: a list of its own -/
def PolledP (d : DeskM) (n : Int) (w : World) (e : Ending) (w' : World) : Prop :=
  ∃ tv, e = .returned (.tuple #[.agg #[.int .i64 (d.poll n).1, tv, .int .i64 (d.poll n).2.2.1], .int .i64 (d.poll n).2.2.2]) ∧ w'.ownsRow w.heap.size 3 1 tv (d.poll n).2.1.length ((d.poll n).2.1.map (Value.int .i64)) ∧ Below w.heap.size w w'
def confV (a b c d : Int) : Value := .agg #[.int .i64 a, .int .i64 b, .int .i64 c, .int .i64 d]
def NewP (PD : (Nat → Prop) → World → Nat → DeskM → Prop) (cf : ConfM) (w : World) (e : Ending) (w' : World) : Prop := ∃ b, e = .returned (.tuple #[ptrV b, .int .i64 0]) ∧ PD (fun k => w.heap.size ≤ k) w' b (desk0 cf) ∧ Below w.heap.size w w'
/-- a program's desk: how it lies in memory, and what New, Map and Poll do -/
structure DeskKit where
  PD : (Nat → Prop) → World → Nat → DeskM → Prop
  fr : ∀ {F R : Nat → Prop} {w w' : World} {b : Nat} {d : DeskM}, PD F w b d → Fr R w w' → (∀ k, F k → ¬ R k) → PD F w' b d
  mono : ∀ {F F' : Nat → Prop} {w : World} {b : Nat} {d : DeskM}, PD F w b d → (∀ k, k < w.heap.size → F k → F' k) → PD F' w b d
  new : ∀ (cf : ConfM) (w : World), confB cf.workers cf.queue cf.fuel cf.patience = true → Calls Try.prog 27 #[confV cf.workers cf.queue cf.fuel cf.patience] w fun e w' => NewP PD cf w e w'
  newBad : ∀ (a b c d : Int) (w : World), confB a b c d = false → Calls Try.prog 27 #[confV a b c d] w fun e w' => e = .returned (.tuple #[.pointer none, .int .i64 4]) ∧ Below w.heap.size w w'
  map : ∀ (F : Nat → Prop) (w : World) (b : Nat) (d : DeskM), PD F w b d → Calls Try.prog 14 #[ptrV b] w fun e w' => Aftered (mapF d.goods) w e w'
  poll : ∀ (F : Nat → Prop) (w : World) (b : Nat) (d : DeskM) (n : Int), PD F w b d → d.jobs.length ≤ 1000000000000 → (∀ i, i < d.jobs.length → (d.jobs.getD i jobM0).told.length ≤ 1000) → Calls Try.prog 16 #[ptrV b, .int .i64 n] w fun e w' => PolledP d n w e w'
end Go.Proofs.Ytlbmcdoldnajoab
