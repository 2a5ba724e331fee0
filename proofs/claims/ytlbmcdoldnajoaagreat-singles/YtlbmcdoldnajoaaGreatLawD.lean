import Derived.Test.YtlbmcdoldnajoaaGreatPFunJ
import Derived.Test.YtlbmcdoldnajoaaGreatRefD
set_option maxRecDepth 100000
set_option maxHeartbeats 400000
namespace Go.Proofs.YtlbmcdoldnajoaaGreat
open Go.RowKit
attribute [local go_sem ↓] wStM wStR wLdM wLdR wLdK wStK wLdA wStA wLdG wStG wLdW wStW
section
variable {o : Nat → Option Nat} {w : World} {b : Nat} {p : PM} {v : PV}
def Told1 (o : Nat → Option Nat) (w : World) (b : Nat) (v : PV) (p' : PM) (r : Int) (e : Ending) (w' : World) : Prop := e = .returned (.int .i64 r) ∧ Stp o w b v.ts v.wb p' w'
theorem kill_pd (h : PD o w b p v) (hF : Fits p) (n : Int) :
    Calls Tryz.prog 37 #[ptrV b, .int .i64 n] w fun e w' => Told1 o w b v (p.kill n).1 (p.kill n).2 e w' := by
  have H : Hid (PD o w b p v) := h
  have HF : Hid (Fits p) := hF
  clear hF
  by_cases hn : 0 ≤ n ∧ n < p.workers.length
  · obtain ⟨i, rfl⟩ : ∃ i : Nat, n = i := ⟨n.toNat, by omega⟩
    have hi : i < p.workers.length := by omega
    have hWk := worker_yes H.out hi
    have cw := H.out.cWkT hi
    unfold ptrV at *
    clear h hn
    by_cases hz : (p.wk i).ticket = 0
    · rw [hz, show tkO v.ts 0 = .pointer none from rfl] at cw
      have HK : Hid (p.kill (i : Int) = (p, 7)) := by
        show _ = _
        unfold PM.kill
        rw [if_neg (by simpa using hi), Int.toNat_natCast]
        simp only
        rw [if_pos hz]
      go_enter Tryz.func37, Tryz.ntmps37
      go_wp2_with fail
      refine hWk.mono ?_
      clear hWk
      rintro e W1 ⟨rfl, hW⟩
      obtain rfl := hW.symm
      clear hW
      go_wp2
      go_ret
      rw [HK.out]
      exact ⟨rfl, Stp.same H.out (Below.refl _ _)⟩
    · have ht2 := HF.out.wk i hi
      obtain ⟨n, hn⟩ : ∃ n, n = (p.wk i).ticket := ⟨_, rfl⟩
      rw [← hn] at hz ht2 cw
      obtain ⟨j, hj⟩ : ∃ j, n = j + 1 := ⟨n - 1, by omega⟩
      have hjl : j < p.tasks.length := by omega
      have HNJ : Hid (n = j + 1 ∧ n = (p.wk i).ticket ∧ j < p.tasks.length) := ⟨hj, hn, hjl⟩
      obtain ⟨tk, htk⟩ : ∃ tk, tk = p.tasks.getD j task0 := ⟨_, rfl⟩
      obtain ⟨tb, htb⟩ : ∃ tb, tb = v.ts.getD j 0 := ⟨_, rfl⟩
      have HTB : Hid (tb = v.ts.getD j 0 ∧ tkV v.ts n = .pointer (some ⟨tb, 0, none⟩)) := ⟨htb, by rw [tkV, hj, htb]; rfl⟩
      have e0 : tkO v.ts n = .pointer (some ⟨tb, 0, none⟩) := by rw [tkO, if_neg hz]; exact HTB.out.2
      rw [e0] at cw
      have htkb : w.heap[tb]? = some (.cells (taskC j tk (v.sv.getD j nilV) (v.tv.getD j nilV)) 128 (0, 0)) := by rw [htb, htk]; exact H.out.task hjl
      have c1 : w.cell? ⟨tb, 1, none⟩ = some (.int .i64 tk.state) := by rw [blk_cell htkb]; rfl
      have f1 : ∀ k, w.frozen? ⟨tb, k, none⟩ = false := fun k => blk_free htkb
      obtain ⟨q, hq⟩ : ∃ q : PM, q = { p with tasks := p.tasks.set j { tk with state := 1 } } := ⟨_, rfl⟩
      have HQ : Hid (p.kill (i : Int) = ((if q.isUrgent n then q else { q with queue := n :: q.queue }).rest i, 0) ∧ i < q.workers.length ∧ q.known.length ≤ 1000000000 ∧ q.workers.length ≤ 1000 ∧ q.queue.length ≤ 1000000000 ∧ j < q.tasks.length) := by
        have e : p.setTask n { p.task n with state := 1 } = q := by rw [hq, htk, PM.setTask, PM.task, hj, Nat.add_sub_cancel]
        refine ⟨?_, by rw [hq]; exact hi, by rw [hq]; have := HF.out.known; show p.known.length ≤ _; omega, by rw [hq]; exact HF.out.wks, by rw [hq]; exact HF.out.queue.1, by rw [hq]; simpa using hjl⟩
        unfold PM.kill
        rw [if_neg (by simpa using hi), Int.toNat_natCast]
        simp only
        rw [← hn, if_neg hz, e]
      have HX : Hid (∀ W, W = w.setCell ⟨tb, 1, none⟩ (.int .i64 1) → Now o w b v o W q v) := fun W hW => by
        have a1 := H.out.setTk (i := j) hjl (c := 1) (x := .int .i64 1) (t' := { tk with state := 1 }) (by rw [← htk]; rfl) (by rw [← htk]) (by rw [← htk])
        rw [← htb] at a1
        rw [hW, hq]
        exact (Now.start H.out).step a1 rfl rfl
      clear hn hj hjl htk htb e0 htkb hq
      obtain ⟨i0, hii, hz0, hz1, hz2⟩ := info_parts Tryz.infoTk
      go_enter Tryz.func37, Tryz.ntmps37
      go_wp2_with fail
      refine hWk.mono ?_
      clear hWk
      rintro e W1 ⟨rfl, hW⟩
      obtain rfl := hW.symm
      clear hW
      go_wp2_with fail
      refine name_calls (p := fun W => Now o w b v o W q v) (HX.out _ rfl) ?_
      rintro W1 hW1
      have HW1 : Hid (Now o w b v o W1 q v) := hW1
      clear hW1 HX c1 f1 cw
      have hiu := isUrgent_any HW1.out.pd HQ.out.2.2.2.2.2
      rw [← HTB.out.1, ← HNJ.out.1] at hiu
      unfold ptrV at hiu
      refine hiu.mono ?_
      clear hiu
      rintro e W2 ⟨rfl, hb2⟩
      have HW2 : Hid (Now o w b v o W2 q v) := HW1.out.below hb2
      clear hb2 HW1
      have hfin : Hid (∀ (p5 : PM) (o5 : Nat → Option Nat) (v5 : PV) (W5 : World), Now o w b v o5 W5 p5 v5 → p5.workers = q.workers → p5.known = q.known → Calls Tryz.prog 68 #[.pointer (some ⟨b, 0, none⟩), .pointer (some ⟨v.wb, i * 74, none⟩)] W5 fun e w' => e = .returned (.tuple #[]) ∧ Stp o w b v.ts v.wb (p5.rest i) w') := fun p5 o5 v5 W5 h5 e1 e2 => by
        have hR := rest_any (p := p5) (i := i) h5.pd (by rw [e1]; exact HQ.out.2.1) (by rw [e2]; exact HQ.out.2.2.1) (by rw [e1]; exact HQ.out.2.2.2.1)
        rw [h5.wb] at hR
        refine hR.mono ?_
        rintro e W6 ⟨rfl, hs⟩
        obtain ⟨o6, v6, h6⟩ := h5.stp hs
        exact ⟨rfl, h6.done⟩
      cases hu : q.isUrgent n
      · have HK : Hid (p.kill (i : Int) = (({ q with queue := n :: q.queue } : PM).rest i, 0)) := by show _ = _; rw [HQ.out.1, hu]; rfl
        obtain ⟨ra, rc, hrv⟩ := owns_form (HW2.out.pd.queue nX).1
        have c4 := HW2.out.pd.cQueue
        rw [hrv] at c4
        have HRV : Hid (v.qv = .slice ra q.queue.length rc ∧ W2.ownsRow 0 125 1 (.slice ra q.queue.length rc) q.queue.length (q.queue.map (tkV v.ts))) := ⟨hrv, by rw [← hrv]; exact (HW2.out.pd.queue nX).1⟩
        have hlb := HW2.out.pd.lt
        have fb := HW2.out.pd.free 39
        have hend : Hid (∀ (x : Value) (w' : World), w'.ownsRow W2.heap.size 125 1 x (q.queue.length + 1) (.pointer (some ⟨tb, 0, none⟩) :: q.queue.map (tkV v.ts)) → Below W2.heap.size W2 w' → Now o w b v (grow W2 o 2) (w'.setCell ⟨b, 39, none⟩ x) { q with queue := n :: q.queue } { v with qv := x }) := fun x w' ho hb => by
          have hs := HW2.out.pd.setQueue (own_grow W2 o 2) (w1 := w') (Fr.of_below hb) (x := x) (l := n :: q.queue) ⟨by rw [List.length_cons, List.map_cons, HTB.out.2]; exact owns_base ho (Nat.zero_le _), fun k hk => grow_new (owns_ge ho hk)⟩
          exact HW2.out.upd hs.1 (own_grow _ _ _) hs.2 rfl rfl
        have hown1 : Hid ((W2.alloc (.cells #[.pointer (some ⟨tb, 0, none⟩)] 125)).ownsRow W2.heap.size 125 1 (.slice (some ⟨W2.heap.size, 0, none⟩) 1 1) 1 [.pointer (some ⟨tb, 0, none⟩)]) := ⟨rfl, Or.inr ⟨W2.heap.size, 1, #[.pointer (some ⟨tb, 0, none⟩)], rfl, Nat.le_refl _, heap_alloc_new _ _, Nat.le_refl _, (by unfold maxLen; omega), rfl, rfl⟩⟩
        by_cases hL : q.queue.length = 0
        · have hqe : q.queue = [] := List.eq_nil_of_length_eq_zero hL
          rw [hL] at c4
          have hao : ra = none → rc = 0 := fun e => by
            rcases HRV.out.2.2 with ⟨h, _⟩ | ⟨g, cap, cur, h, _⟩
            · injection h with _ _ h
            · subst e; injection h with h; cases h
          have HW3 : Hid (Now o w b v (grow W2 o 2) ((W2.setCell ⟨b, 39, none⟩ (.slice (some ⟨W2.heap.size, 0, none⟩) 1 1)).alloc (.cells #[.pointer (some ⟨tb, 0, none⟩)] 125)) { q with queue := n :: q.queue } { v with qv := .slice (some ⟨W2.heap.size, 0, none⟩) 1 1 }) := by
            have := hend.out _ _ (by rw [hqe]; exact hown1.out) ((Below.refl _ _).alloc (Nat.le_refl _) _)
            rw [World.setCell_alloc_past _ _ _ _ hlb] at this
            exact this
          clear hrv hend
          cases ra with
          | none =>
            obtain rfl := hao rfl
            go_wp2_with (at_builtin; refine wpList_append_own_none (by rfl) _ _ 75 (by rfl) W2.heap.size 125 i0 1 Tryz.underlying75 hii _ _ _ (by rfl) hown1.out (by rfl) ?_)
            go_wp2_with fail
            refine (hfin.out _ _ _ _ HW3.out rfl rfl).mono ?_
            rintro e W6 ⟨rfl, hs⟩
            have HS : Hid (Stp o w b v.ts v.wb (({ q with queue := n :: q.queue } : PM).rest i) W6) := hs
            clear hs
            go_wp2
            go_ret
            rw [HK.out]
            exact ⟨rfl, HS.out⟩
          | some ad =>
            go_wp2_with fail
            refine (hfin.out _ _ _ _ HW3.out rfl rfl).mono ?_
            rintro e W6 ⟨rfl, hs⟩
            have HS : Hid (Stp o w b v.ts v.wb (({ q with queue := n :: q.queue } : PM).rest i) W6) := hs
            clear hs
            go_wp2
            go_ret
            rw [HK.out]
            exact ⟨rfl, HS.out⟩
        · obtain ⟨g, cap, hv, hgl, hcell⟩ := owns_pos HRV.out.2 (by omega)
          injection hv with h1 h2 h3
          subst h1
          obtain ⟨L, hLe⟩ : ∃ L, L = q.queue.length := ⟨_, rfl⟩
          have hll : L ≤ 1000000000 := by rw [hLe]; exact HQ.out.2.2.2.2.1
          have HLL : Hid (L = q.queue.length) := hLe
          rw [← hLe] at c4 hL
          have HC : Hid (∀ j u, (q.queue.map (tkV v.ts))[j]? = some u → W2.cell? ⟨g, j, none⟩ = some u) := fun j u hj => by
            have hlt : j < q.queue.length := by simpa using (List.getElem?_eq_some_iff.1 hj).1
            rw [hcell j (by omega)]; exact hj
          clear hcell h2 h3 hrv hLe
          go_wp2_with (at_builtin; refine wpList_append_lies _ (by rfl) _ _ 75 (by rfl) W2.heap.size 125 i0 _ 1 8 Tryz.underlying75 hii hz0 hz1 hz2 (by rfl) (by decide) _ _ _ (by rfl) hown1.out ⟨g, 0, none⟩ L rc (q.queue.map (tkV v.ts)) (by rfl) ?_ ?_ ?_ (by omega) ?_ ?_ ?_ _ (by rfl) ?_)
          · rw [HLL.out]; simp
          · intro j u hj
            rw [Addr.add_mid, Nat.zero_add]
            exact ((Below.refl W2.heap.size W2).alloc (Nat.le_refl _) _).cell (p := ⟨g, j, none⟩) hgl |>.trans (HC.out j u hj)
          · intro u hu; obtain ⟨k, _, rfl⟩ := List.mem_map.1 hu; rfl
          · unfold maxLen; omega
          · omega
          · simp
          · intro g1 cap1 w2 hown2 hgrow2 hat hlt2
            have hbel : Below W2.heap.size W2 w2 := ((Below.refl W2.heap.size W2).alloc (Nat.le_refl _) _).grown hgrow2 (by simp) (fun k hk => by injection hk with hk; exact Nat.le_of_eq hk)
            have HW3 : Hid (Now o w b v (grow W2 o 2) (w2.setCell ⟨b, 39, none⟩ (.slice (some ⟨g1, 0, none⟩) (1 + L) cap1)) { q with queue := n :: q.queue } { v with qv := .slice (some ⟨g1, 0, none⟩) (1 + L) cap1 }) := hend.out _ _ (by rw [← HLL.out, Nat.add_comm L 1]; exact hown2) hbel
            have k1 := (hbel.cell (p := ⟨b, 39, none⟩) hlb).trans c4
            have k2 : w2.frozen? ⟨b, 39, none⟩ = false := by rw [World.frozen?_of_block (w := W2) (hbel.block _ hlb)]; exact fb
            clear hown2 hgrow2 hat hlt2 hbel c4 fb hend
            go_wp2_with fail
            refine (hfin.out _ _ _ _ HW3.out rfl rfl).mono ?_
            rintro e W6 ⟨rfl, hs⟩
            have HS : Hid (Stp o w b v.ts v.wb (({ q with queue := n :: q.queue } : PM).rest i) W6) := hs
            clear hs
            go_wp2
            go_ret
            rw [HK.out]
            exact ⟨rfl, HS.out⟩
      · have HK : Hid (p.kill (i : Int) = (q.rest i, 0)) := by show _ = _; rw [HQ.out.1, hu]; rfl
        go_wp2_with fail
        refine (hfin.out q o v W2 HW2.out rfl rfl).mono ?_
        rintro e W6 ⟨rfl, hs⟩
        have HS : Hid (Stp o w b v.ts v.wb (q.rest i) W6) := hs
        clear hs
        go_wp2
        go_ret
        rw [HK.out]
        exact ⟨rfl, HS.out⟩
  · have HK : Hid (p.kill n = (p, 6)) := by
      show _ = _
      unfold PM.kill
      rw [if_pos (by simpa using hn)]
    have hWk := worker_no H.out n hn
    unfold ptrV at *
    clear h hn
    go_enter Tryz.func37, Tryz.ntmps37
    go_wp2_with fail
    refine hWk.mono ?_
    clear hWk
    rintro e W1 ⟨rfl, hW⟩
    obtain rfl := hW.symm
    clear hW
    go_wp2
    go_ret
    rw [HK.out]
    exact ⟨rfl, Stp.same H.out (Below.refl _ _)⟩
end
end Go.Proofs.YtlbmcdoldnajoaaGreat
namespace Go.Proofs.YtlbmcdoldnajoaaGreat
open Go.RowKit
def LWin (pb : Nat) (iv pv : Value) (vs ps : List Value) (k : Nat) : Prop := k = pb ∨ iv.ownBlock = some k ∨ pv.ownBlock = some k ∨ (∃ (i : Nat) (v : Value), vs[i]? = some v ∧ v.ownBlock = some k) ∨ (∃ (i : Nat) (v : Value), ps[i]? = some v ∧ v.ownBlock = some k)
theorem LW.frL {B : Nat} {W W' : World} {R : Nat → Prop} {pb : Nat} {dv : Value} {one : Bool} {iv pv : Value} {vs ps : List Value} (h : LW B W pb dv one iv pv vs ps) (hf : Fr R W W') (hR : ∀ k, LWin pb iv pv vs ps k → ¬ R k) : LW B W' pb dv one iv pv vs ps :=
  ⟨h.bpb, hf.blk h.blk (hR _ (Or.inl rfl)), owns_fr h.ints hf (fun k hk => hR k (Or.inr (Or.inl hk))), owns_fr h.prs hf (fun k hk => hR k (Or.inr (Or.inr (Or.inl hk)))),
    fun i v hv => by obtain ⟨n, h1, h2⟩ := h.ki i v hv; exact ⟨n, h1, owns_fr h2 hf (fun k hk => hR k (Or.inr (Or.inr (Or.inr (Or.inl ⟨i, v, hv, hk⟩)))))⟩,
    fun i v hv => by obtain ⟨n, h1, h2⟩ := h.kp i v hv; exact ⟨n, h1, owns_fr h2 hf (fun k hk => hR k (Or.inr (Or.inr (Or.inr (Or.inr ⟨i, v, hv, hk⟩)))))⟩, h.i4, h.p4⟩
theorem LW.ltL {B : Nat} {W : World} {pb : Nat} {dv : Value} {one : Bool} {iv pv : Value} {vs ps : List Value} (h : LW B W pb dv one iv pv vs ps) {k : Nat} (hk : LWin pb iv pv vs ps k) : k < W.heap.size := by
  rcases hk with rfl | hk | hk | ⟨i, v, hv, hk⟩ | ⟨i, v, hv, hk⟩
  · exact blk_lt h.blk
  · exact (owns_lt h.ints hk).2
  · exact (owns_lt h.prs hk).2
  · obtain ⟨n, _, h2⟩ := h.ki i v hv; exact (owns_lt h2 hk).2
  · obtain ⟨n, _, h2⟩ := h.kp i v hv; exact (owns_lt h2 hk).2
def PolledP (d : DeskM) (n : Int) (w : World) (e : Ending) (w' : World) : Prop :=
  ∃ tv, e = .returned (.tuple #[.agg #[.int .i64 (d.poll n).1, tv, .int .i64 (d.poll n).2.2.1], .int .i64 (d.poll n).2.2.2]) ∧ w'.ownsRow w.heap.size 3 1 tv (d.poll n).2.1.length ((d.poll n).2.1.map (Value.int .i64)) ∧ Below w.heap.size w w'
def confV (a b c d : Int) : Value := .agg #[.int .i64 a, .int .i64 b, .int .i64 c, .int .i64 d]
def NewP (PD : (Nat → Prop) → World → Nat → DeskM → Prop) (cf : ConfM) (w : World) (e : Ending) (w' : World) : Prop := ∃ b, e = .returned (.tuple #[ptrV b, .int .i64 0]) ∧ PD (fun k => w.heap.size ≤ k) w' b (desk0 cf) ∧ Below w.heap.size w w'
structure DeskKit where
  PD : (Nat → Prop) → World → Nat → DeskM → Prop
  fr : ∀ {F R : Nat → Prop} {w w' : World} {b : Nat} {d : DeskM}, PD F w b d → Fr R w w' → (∀ k, F k → ¬ R k) → PD F w' b d
  mono : ∀ {F F' : Nat → Prop} {w : World} {b : Nat} {d : DeskM}, PD F w b d → (∀ k, k < w.heap.size → F k → F' k) → PD F' w b d
  new : ∀ (cf : ConfM) (w : World), confB cf.workers cf.queue cf.fuel cf.patience = true → Calls Tryz.prog 11 #[confV cf.workers cf.queue cf.fuel cf.patience] w fun e w' => NewP PD cf w e w'
  newBad : ∀ (a b c d : Int) (w : World), confB a b c d = false → Calls Tryz.prog 11 #[confV a b c d] w fun e w' => e = .returned (.tuple #[.pointer none, .int .i64 4]) ∧ Below w.heap.size w w'
  map : ∀ (F : Nat → Prop) (w : World) (b : Nat) (d : DeskM), PD F w b d → Calls Tryz.prog 39 #[ptrV b] w fun e w' => Aftered (mapF d.goods) w e w'
  poll : ∀ (F : Nat → Prop) (w : World) (b : Nat) (d : DeskM) (n : Int), PD F w b d → d.jobs.length ≤ 1000000000000 → (∀ i, i < d.jobs.length → (d.jobs.getD i jobM0).told.length ≤ 1000) → Calls Tryz.prog 41 #[ptrV b, .int .i64 n] w fun e w' => PolledP d n w e w'
structure DP where
  p : Nat
  x : Nat
  y : Nat
  d : DeskM
  v : RV
def dp0 : DP := ⟨0, 0, 0, desk0 ⟨0, 0, 0, 0⟩, ⟨nilV, nilV, nilV, nilV, nilV, [], [], [], []⟩⟩
structure LA (K : DeskKit) (Inv : DeskM → Prop) (B : Nat) (own : Nat → Nat) (W : World) (pb : Nat) (dv : Value) (one : Bool) (iv pv : Value) (vs ps : List Value) (ds : List DP) : Prop where
  lw : LW B W pb dv one iv pv vs ps
  lo : ∀ k, LWin pb iv pv vs ps k → own k = 1
  row : W.ownsRow B 48 1 dv ds.length (ds.map fun t => ptrV t.p)
  ro : ∀ k, dv.ownBlock = some k → own k = 1
  pr : ∀ i, i < ds.length → own (ds.getD i dp0).p = 1 ∧ W.heap[(ds.getD i dp0).p]? = some (.cells #[ptrV (ds.getD i dp0).x, ptrV (ds.getD i dp0).y] 50 (0, 0))
  px : ∀ i, i < ds.length → K.PD (fun k => own k = 2 * i + 2) W (ds.getD i dp0).x (ds.getD i dp0).d
  py : ∀ i, i < ds.length → RD (fun k => own k = 2 * i + 3) W (ds.getD i dp0).y (ds.getD i dp0).d (ds.getD i dp0).v
  inv : ∀ i, i < ds.length → Inv (ds.getD i dp0).d
  ge : ∀ k, own k ≠ 0 → B ≤ k
namespace LA
variable {K : DeskKit} {Inv : DeskM → Prop} {B : Nat} {own : Nat → Nat} {W W' : World} {pb : Nat} {dv : Value} {one : Bool} {iv pv : Value} {vs ps : List Value} {ds : List DP}
theorem below (h : LA K Inv B own W pb dv one iv pv vs ps ds) (hb : Below W.heap.size W W') : LA K Inv B own W' pb dv one iv pv vs ps ds where
  lw := h.lw.below hb
  lo := h.lo
  row := owns_keep h.row hb
  ro := h.ro
  pr := fun i hi => ⟨(h.pr i hi).1, (hb.block _ (blk_lt (h.pr i hi).2)).trans (h.pr i hi).2⟩
  px := fun i hi => K.fr (R := fun _ => False) (h.px i hi) (Fr.of_below hb) (fun _ _ hs => hs)
  py := fun i hi => (h.py i hi).below hb
  inv := h.inv
  ge := h.ge
theorem reown (h : LA K Inv B own W pb dv one iv pv vs ps ds) {own' : Nat → Nat} (he : ∀ k, k < W.heap.size → own' k = own k) (hg : ∀ k, own' k ≠ 0 → B ≤ k) : LA K Inv B own' W pb dv one iv pv vs ps ds where
  lw := h.lw
  lo := fun k hk => (he k (h.lw.ltL hk)).trans (h.lo k hk)
  row := h.row
  ro := fun k hk => (he k (owns_lt h.row hk).2).trans (h.ro k hk)
  pr := fun i hi => ⟨(he _ (blk_lt (h.pr i hi).2)).trans (h.pr i hi).1, (h.pr i hi).2⟩
  px := fun i hi => K.mono (h.px i hi) (fun k hk e => (he k hk).trans e)
  py := fun i hi => (h.py i hi).mono (fun k hk e => (he k hk).trans e)
  inv := h.inv
  ge := hg
theorem kept (h : LA K Inv B own W pb dv one iv pv vs ps ds) {iv' pv' : Value} {vs' ps' : List Value} {R : Nat → Prop} (hlw : LW B W' pb dv one iv' pv' vs' ps') (hin : ∀ k, LWin pb iv' pv' vs' ps' k → own k = 1) (hf : Fr R W W') (hR : ∀ k, R k → own k = 1)
    (h1 : ∀ k, dv.ownBlock = some k → ¬ R k) (h2 : ∀ i, i < ds.length → ¬ R (ds.getD i dp0).p) : LA K Inv B own W' pb dv one iv' pv' vs' ps' ds where
  lw := hlw
  lo := hin
  row := owns_fr h.row hf h1
  ro := h.ro
  pr := fun i hi => ⟨(h.pr i hi).1, hf.blk (h.pr i hi).2 (h2 i hi)⟩
  px := fun i hi => K.fr (h.px i hi) hf (fun k hk hr => by have := hR k hr; have hk : own k = 2 * i + 2 := hk; omega)
  py := fun i hi => (h.py i hi).fr hf (fun k hk hr => by have := hR k hr; have hk : own k = 2 * i + 3 := hk; omega)
  inv := h.inv
  ge := h.ge
theorem cx (h : LA K Inv B own W pb dv one iv pv vs ps ds) {i : Nat} (hi : i < ds.length) : W.cell? ⟨(ds.getD i dp0).p, 0, none⟩ = some (.pointer (some ⟨(ds.getD i dp0).x, 0, none⟩)) := by rw [blk_cell (h.pr i hi).2]; rfl
theorem cy (h : LA K Inv B own W pb dv one iv pv vs ps ds) {i : Nat} (hi : i < ds.length) : W.cell? ⟨(ds.getD i dp0).p, 1, none⟩ = some (.pointer (some ⟨(ds.getD i dp0).y, 0, none⟩)) := by rw [blk_cell (h.pr i hi).2]; rfl
theorem size (h : LA K Inv B own W pb dv one iv pv vs ps ds) : B ≤ W.heap.size := by have := h.lw.bpb; have := blk_lt h.lw.blk; omega
end LA
def mine (own : Nat → Nat) (n : Nat) (k : Nat) : Nat := if k < n then own k else 1
theorem mine_old {own : Nat → Nat} {n k : Nat} (h : k < n) : mine own n k = own k := if_pos h
theorem mine_new {own : Nat → Nat} {n k : Nat} (h : n ≤ k) : mine own n k = 1 := if_neg (by omega)
theorem LA.mine {K : DeskKit} {Inv : DeskM → Prop} {B : Nat} {own : Nat → Nat} {W : World} {pb : Nat} {dv : Value} {one : Bool} {iv pv : Value} {vs ps : List Value} {ds : List DP} (h : LA K Inv B own W pb dv one iv pv vs ps ds) : LA K Inv B (mine own W.heap.size) W pb dv one iv pv vs ps ds :=
  h.reown (fun k hk => mine_old hk) (fun k hk => by
    by_cases hl : k < W.heap.size
    · rw [mine_old hl] at hk; exact h.ge k hk
    · have := h.size; omega)
theorem LA.keptI {K : DeskKit} {Inv : DeskM → Prop} {B n0 : Nat} {own : Nat → Nat} {W W' : World} {pb : Nat} {dv : Value} {one : Bool} {iv pv : Value} {vs ps : List Value} {ds : List DP} {lv : Value} {n : Nat} {xs : List Value} (h : LA K Inv B (Go.Proofs.YtlbmcdoldnajoaaGreat.mine own n0) W pb dv one iv pv vs ps ds) (hn : n0 ≤ W.heap.size)
    (hl : W.ownsRow n0 3 1 lv n xs) {e : Ending} (hk : KeptI B W pb dv one iv pv vs ps lv e W') : e = .returned (.tuple #[]) ∧ ∃ iv' vs', LA K Inv B (Go.Proofs.YtlbmcdoldnajoaaGreat.mine own n0) W' pb dv one iv' pv vs' ps ds ∧ vs'.length = vs.length + 4 ∧ Below B W W' := by
  obtain ⟨he, iv', o1, o2, o3, L, F, N⟩ := hk
  have hlv : ∀ k, lv.ownBlock = some k → Go.Proofs.YtlbmcdoldnajoaaGreat.mine own n0 k = 1 := fun k hk => mine_new (owns_ge hl hk)
  have hR : ∀ k, (k = pb ∨ iv.ownBlock = some k ∨ lv.ownBlock = some k) → Go.Proofs.YtlbmcdoldnajoaaGreat.mine own n0 k = 1 := fun k hk => by
    rcases hk with hk | hk | hk
    · exact h.lo k (Or.inl hk)
    · exact h.lo k (Or.inr (Or.inl hk))
    · exact hlv k hk
  have hno : ∀ k, (iv'.ownBlock = some k ∨ o1.ownBlock = some k ∨ o2.ownBlock = some k ∨ o3.ownBlock = some k) → Go.Proofs.YtlbmcdoldnajoaaGreat.mine own n0 k = 1 := fun k hk => by
    by_cases hlt : k < W.heap.size
    · obtain ⟨q1, q2⟩ := N k hlt
      rcases hk with hk | hk
      · exact h.lo k (Or.inr (Or.inl (q1 hk)))
      · exact hlv k (q2 hk)
    · exact mine_new (by omega)
  refine ⟨he, iv', _, h.kept L (fun k hk => ?_) F hR (fun k hk hr => ?_) (fun i hi hr => ?_), by simp, F.below (fun k hk => h.ge k (by rw [hR k hk]; decide)) h.size⟩
  · rcases hk with hk | hk | hk | ⟨i, v, hv, hk⟩ | hk
    · exact h.lo k (Or.inl hk)
    · exact hno k (Or.inl hk)
    · exact h.lo k (Or.inr (Or.inr (Or.inl hk)))
    · by_cases hi : i < vs.length
      · rw [List.getElem?_append_left hi] at hv
        exact h.lo k (Or.inr (Or.inr (Or.inr (Or.inl ⟨i, v, hv, hk⟩))))
      · rw [List.getElem?_append_right (by omega)] at hv
        have hm := List.mem_of_getElem? hv
        simp at hm
        rcases hm with rfl | rfl | rfl | rfl
        · exact hlv k hk
        · exact hno k (Or.inr (Or.inl hk))
        · exact hno k (Or.inr (Or.inr (Or.inl hk)))
        · exact hno k (Or.inr (Or.inr (Or.inr hk)))
    · exact h.lo k (Or.inr (Or.inr (Or.inr (Or.inr hk))))
  · rcases hr with rfl | hr | hr
    · exact owns_ne h.row h.lw.blk (by decide) hk
    · exact own_types h.row h.lw.ints (by decide) hk hr
    · exact own_types h.row hl (by decide) hk hr
  · rcases hr with hr | hr | hr
    · exact blk_ne (h.pr i hi).2 h.lw.blk (by decide) hr
    · exact owns_ne h.lw.ints (h.pr i hi).2 (by decide) hr
    · exact owns_ne hl (h.pr i hi).2 (by decide) hr
theorem LA.keptP {K : DeskKit} {Inv : DeskM → Prop} {B n0 : Nat} {own : Nat → Nat} {W W' : World} {pb : Nat} {dv : Value} {one : Bool} {iv pv : Value} {vs ps : List Value} {ds : List DP} {lv : Value} {n : Nat} {xs : List Value} (h : LA K Inv B (Go.Proofs.YtlbmcdoldnajoaaGreat.mine own n0) W pb dv one iv pv vs ps ds) (hn : n0 ≤ W.heap.size)
    (hl : W.ownsRow n0 58 2 lv n xs) {e : Ending} (hk : KeptP B W pb dv one iv pv vs ps lv e W') : e = .returned (.tuple #[]) ∧ ∃ pv' ps', LA K Inv B (Go.Proofs.YtlbmcdoldnajoaaGreat.mine own n0) W' pb dv one iv pv' vs ps' ds ∧ ps'.length = ps.length + 4 ∧ Below B W W' := by
  obtain ⟨he, iv', o1, o2, o3, L, F, N⟩ := hk
  have hlv : ∀ k, lv.ownBlock = some k → Go.Proofs.YtlbmcdoldnajoaaGreat.mine own n0 k = 1 := fun k hk => mine_new (owns_ge hl hk)
  have hR : ∀ k, (k = pb ∨ pv.ownBlock = some k ∨ lv.ownBlock = some k) → Go.Proofs.YtlbmcdoldnajoaaGreat.mine own n0 k = 1 := fun k hk => by
    rcases hk with hk | hk | hk
    · exact h.lo k (Or.inl hk)
    · exact h.lo k (Or.inr (Or.inr (Or.inl hk)))
    · exact hlv k hk
  have hno : ∀ k, (iv'.ownBlock = some k ∨ o1.ownBlock = some k ∨ o2.ownBlock = some k ∨ o3.ownBlock = some k) → Go.Proofs.YtlbmcdoldnajoaaGreat.mine own n0 k = 1 := fun k hk => by
    by_cases hlt : k < W.heap.size
    · obtain ⟨q1, q2⟩ := N k hlt
      rcases hk with hk | hk
      · exact h.lo k (Or.inr (Or.inr (Or.inl (q1 hk))))
      · exact hlv k (q2 hk)
    · exact mine_new (by omega)
  refine ⟨he, iv', _, h.kept L (fun k hk => ?_) F hR (fun k hk hr => ?_) (fun i hi hr => ?_), by simp, F.below (fun k hk => h.ge k (by rw [hR k hk]; decide)) h.size⟩
  · rcases hk with hk | hk | hk | hk | ⟨i, v, hv, hk⟩
    · exact h.lo k (Or.inl hk)
    · exact h.lo k (Or.inr (Or.inl hk))
    · exact hno k (Or.inl hk)
    · exact h.lo k (Or.inr (Or.inr (Or.inr (Or.inl hk))))
    · by_cases hi : i < ps.length
      · rw [List.getElem?_append_left hi] at hv
        exact h.lo k (Or.inr (Or.inr (Or.inr (Or.inr ⟨i, v, hv, hk⟩))))
      · rw [List.getElem?_append_right (by omega)] at hv
        have hm := List.mem_of_getElem? hv
        simp at hm
        rcases hm with rfl | rfl | rfl | rfl
        · exact hlv k hk
        · exact hno k (Or.inr (Or.inl hk))
        · exact hno k (Or.inr (Or.inr (Or.inl hk)))
        · exact hno k (Or.inr (Or.inr (Or.inr hk)))
  · rcases hr with rfl | hr | hr
    · exact owns_ne h.row h.lw.blk (by decide) hk
    · exact own_types h.row h.lw.prs (by decide) hk hr
    · exact own_types h.row hl (by decide) hk hr
  · rcases hr with hr | hr | hr
    · exact blk_ne (h.pr i hi).2 h.lw.blk (by decide) hr
    · exact owns_ne h.lw.prs (h.pr i hi).2 (by decide) hr
    · exact owns_ne hl (h.pr i hi).2 (by decide) hr
def Said1L (K : DeskKit) (Inv : DeskM → Prop) (B : Nat) (W : World) (pb : Nat) (dv : Value) (one : Bool) (vs ps : List Value) (ds : List DP) (n m : Nat) (e : Ending) (W' : World) : Prop :=
  e = .returned (.bool true) ∧ ∃ own' iv' pv' vs' ps', LA K Inv B own' W' pb dv one iv' pv' vs' ps' ds ∧ vs'.length = vs.length + n ∧ ps'.length = ps.length + m ∧ Below B W W'
end Go.Proofs.YtlbmcdoldnajoaaGreat
