import Derived.Test.YtlbmcdoldnajoabKPa

namespace Go.Proofs.Ytlbmcdoldnajoab
/-- a run that has seen nothing yet -/
def run0 (c : ConfM) (xb : Nat) : RM := ⟨desk0 c, c, [], [], List.replicate c.workers 0, 0, xb⟩
def fJ : List St := [⟨1, 0, 7, 0⟩, ⟨3, 3, 0, 0⟩, ⟨11, 0, 0, 0⟩]
/-- its first job handed in, and k picks -/
def run5 (c : ConfM) (xb : Nat) : Nat → RM
  | 0 => (run0 c xb).sayR fJ
  | k + 1 => (run5 c xb k).pickR 0
theorem run0_inv {c : ConfM} (xb : Nat) (hc : (1 ≤ c.workers ∧ c.workers ≤ 4) ∧ (1 ≤ c.queue ∧ c.queue ≤ 8) ∧ (1 ≤ c.fuel ∧ c.fuel ≤ 200) ∧ c.patience ≤ 5) (hf : 3 ≤ c.fuel) : KInv (run0 c xb) := by
  have hno : ∀ n, ¬ (run0 c xb).d.Has n := fun n hn => by
    have h1 := hn.1
    have h2 : n ≤ 0 := hn.2
    omega
  refine ⟨dinv0 hc, uinv0 c, rfl, hf, rfl, fun n hn => absurd hn (hno n), fun n hn => absurd hn (hno n), fun n hn => absurd hn (hno n), fun n hn => absurd hn (hno n), fun n hn => absurd hn (hno n), fun n hn => absurd hn (hno n), ?_, rfl, rfl⟩
  show List.replicate c.workers 0 = (List.replicate c.workers att0).map (·.ticket)
  rw [List.map_replicate]; rfl
theorem run5_ok {c : ConfM} (xb : Nat) (hc : (1 ≤ c.workers ∧ c.workers ≤ 4) ∧ (1 ≤ c.queue ∧ c.queue ≤ 8) ∧ (1 ≤ c.fuel ∧ c.fuel ≤ 200) ∧ c.patience ≤ 5) (hf : 3 ≤ c.fuel) : ∀ k, KOk 1 (run5 c xb k) ∧ (run5 c xb k).d.c = c
  | 0 => by
    have h0 : KOk 0 (run0 c xb) := ⟨run0_inv xb hc hf, Nat.le_refl _, fun n => by simp [RM.tk, run0, tk0]⟩
    refine ⟨h0.say (by decide), ?_⟩
    show ((run0 c xb).sayR fJ).d.c = c
    unfold RM.sayR DeskM.submit
    split
    · rfl
    · split <;> rfl
  | k + 1 => by
    obtain ⟨h1, h2⟩ := run5_ok xb hc hf k
    exact ⟨h1.pick (by rw [h2]; omega), by show ((run5 c xb k).pickR 0).d.c = c; rw [pickR_d, pick_c, h2]⟩
theorem f_ends {c : ConfM} (hc : (1 ≤ c.workers ∧ c.workers ≤ 4) ∧ (1 ≤ c.queue ∧ c.queue ≤ 8) ∧ (1 ≤ c.fuel ∧ c.fuel ≤ 200) ∧ c.patience ≤ 5) (hf : 3 ≤ c.fuel) {m : Int → Int} : play fJ m c.fuel mo0 = play fJ m 3 mo0 := by
  have : 3 + (c.fuel - 3) = c.fuel := by omega
  rw [← this, play_add]
  refine play_end (fun h => ?_)
  have e : (play fJ m 3 mo0).pc = 3 := rfl
  have h2 := h.2
  rw [e] at h2
  exact absurd h2 (by decide)
theorem run5_al {c : ConfM} (xb : Nat) (hc : (1 ≤ c.workers ∧ c.workers ≤ 4) ∧ (1 ≤ c.queue ∧ c.queue ≤ 8) ∧ (1 ≤ c.fuel ∧ c.fuel ≤ 200) ∧ c.patience ≤ 5) (hf : 3 ≤ c.fuel) : ∀ k, (∃ q, q = k ∧ Al (run5 c xb (k + 1)).d 0 1 q fJ []) ∨ Ae (run5 c xb (k + 1)).d 1 fJ []
  | 0 => by
    have hdes : ((run0 c xb).sayR fJ).d = ((run0 c xb).d.submit fJ).1 := by
      unfold RM.sayR
      split
      · rename_i hq
        exfalso
        have : (run0 c xb).d.waiting = 0 := rfl
        have h2 : (run0 c xb).d.c.queue = c.queue := rfl
        omega
      · rfl
    have h1 := al_took (d := (run0 c xb).d) (run0_inv xb hc hf).inv (fun m hm => by have h1 := hm.1; have h2 : m ≤ 0 := hm.2; omega) (l := fJ) (by decide) (w := 0) (by show 0 < c.workers; omega)
    refine Or.inl ⟨0, rfl, ?_⟩
    show Al (((run0 c xb).sayR fJ).pickR 0).d 0 1 0 fJ []
    rw [pickR_d, hdes]
    exact h1
  | k + 1 => by
    have hk := run5_ok xb hc hf (k + 1)
    have hw : 0 < (run5 c xb (k + 1)).d.c.workers := by rw [hk.2]; omega
    have e : (run5 c xb (k + 1 + 1)).d = ((run5 c xb (k + 1)).d.pick (0 : Nat)).1 := pickR_d _ _
    rw [e]
    rcases run5_al xb hc hf k with ⟨q, rfl, h⟩ | h
    · rcases al_pick hk.1.k.inv hw h with h | h
      · exact Or.inl ⟨q + 1, rfl, h⟩
      · exact Or.inr h
    · exact Or.inr (ae_pick hk.1.k.inv hw h)
theorem run5_end {c : ConfM} (xb : Nat) (hc : (1 ≤ c.workers ∧ c.workers ≤ 4) ∧ (1 ≤ c.queue ∧ c.queue ≤ 8) ∧ (1 ≤ c.fuel ∧ c.fuel ≤ 200) ∧ c.patience ≤ 5) (hf : 3 ≤ c.fuel) : Ae (run5 c xb 5).d 1 fJ [] := by
  rcases run5_al xb hc hf 4 with ⟨q, rfl, h⟩ | h
  · exfalso
    have hk := run5_ok xb hc hf 5
    have hw : 0 < (run5 c xb 5).d.c.workers := by rw [hk.2]; omega
    have ht : ((run5 c xb 5).d.wk 0).ticket = 1 := by rw [h.wk]
    have hh := (hk.1.k.inv.work 0 hw (by rw [ht]; decide)).2.2.2.2.2
    have e : (run5 c xb 5).d.aX ((run5 c xb 5).d.wk 0) = play fJ (mapF ((run5 c xb 5).d.goods.take ((run5 c xb 5).d.wk 0).beg)) 4 mo0 := by
      unfold DeskM.aX
      rw [ht, h.steps]
      have : ((run5 c xb 5).d.wk 0).done = 4 := by rw [h.wk]
      rw [this]
    rw [e] at hh
    have h3 : (play fJ (mapF ((run5 c xb 5).d.goods.take ((run5 c xb 5).d.wk 0).beg)) 4 mo0).done = 3 := rfl
    have h4 : ((run5 c xb 5).d.wk 0).done = 4 := by rw [h.wk]
    omega
  · exact h
theorem run5_len {c : ConfM} (xb : Nat) (hc : (1 ≤ c.workers ∧ c.workers ≤ 4) ∧ (1 ≤ c.queue ∧ c.queue ≤ 8) ∧ (1 ≤ c.fuel ∧ c.fuel ≤ 200) ∧ c.patience ≤ 5) (hf : 3 ≤ c.fuel) : ∀ k, (run5 c xb k).d.jobs.length = 1
  | 0 => by
    show ((run0 c xb).sayR fJ).d.jobs.length = 1
    unfold RM.sayR
    rw [if_neg (by have : (run0 c xb).d.waiting = 0 := rfl; have h2 : (run0 c xb).d.c.queue = c.queue := rfl; omega)]
    have := congrArg Prod.fst (al_say (d := (run0 c xb).d) (run0_inv xb hc hf).inv (fun m hm => by have h1 := hm.1; have h2 : m ≤ 0 := hm.2; omega) (l := fJ) (by decide))
    show ((run0 c xb).d.submit fJ).1.jobs.length = 1
    rw [this]; rfl
  | k + 1 => by
    have hk := run5_ok xb hc hf k
    have h1 := (hk.1.pick (i := 0) (by rw [hk.2]; omega)).k.len
    show ((run5 c xb k).pickR 0).d.jobs.length = 1
    rw [← h1]
    have h2 := run5_len xb hc hf k
    rw [← hk.1.k.len] at h2
    unfold RM.pickR RM.pickN
    split
    · exact h2
    · split
      · exact h2
      · split
        · simp only [List.length_set]; exact h2
        · exact h2
/-- what came out: state, told, tries, the map -/
theorem run5_out {c : ConfM} (xb : Nat) (hc : (1 ≤ c.workers ∧ c.workers ≤ 4) ∧ (1 ≤ c.queue ∧ c.queue ≤ 8) ∧ (1 ≤ c.fuel ∧ c.fuel ≤ 200) ∧ c.patience ≤ 5) (hf : 3 ≤ c.fuel) : ((run5 c xb 5).d.job 1).state = 3 ∧ ((run5 c xb 5).d.job 1).told = [7] ∧ ((run5 c xb 5).d.job 1).tries = 1 ∧ ((run5 c xb 5).d.job 1).failed = 0 ∧ listOf (mapF (run5 c xb 5).d.goods) = [(3, 7)] ∧ openN (run5 c xb 5).d = 0 := by
  have h := run5_end xb hc hf
  have hcc := (run5_ok xb hc hf 5).2
  have h1 := h.state
  have h2 := h.told
  have h5 := h.map
  rw [hcc, f_ends hc hf] at h1 h2 h5
  refine ⟨h1.trans rfl, h2.trans rfl, h.tries, h.failed, ?_, ?_⟩
  · rw [h5]; rfl
  · refine Nat.eq_zero_of_not_pos fun hp => ?_
    obtain ⟨n, hn, hs⟩ := open_pos hp
    have := h.over n hn
    omega
end Go.Proofs.Ytlbmcdoldnajoab
namespace Go.Proofs.Ytlbmcdoldnajoab
open Go.RowKit
/-- a configuration out of any numbers -/
def fitM (a b c d : Int) : ConfM := ⟨(1 + pickI a 4).toNat, (1 + pickI b 8).toNat, (3 + pickI c 198).toNat, (pickI d 6).toNat⟩
theorem fit_ok (a b c d : Int) : ((1 ≤ (fitM a b c d).workers ∧ (fitM a b c d).workers ≤ 4) ∧ (1 ≤ (fitM a b c d).queue ∧ (fitM a b c d).queue ≤ 8) ∧ (1 ≤ (fitM a b c d).fuel ∧ (fitM a b c d).fuel ≤ 200) ∧ (fitM a b c d).patience ≤ 5) ∧ 3 ≤ (fitM a b c d).fuel := by
  have a1 := pickI_lo a (n := 4) (by omega)
  have a2 := pickI_hi a (n := 4) (by omega)
  have b1 := pickI_lo b (n := 8) (by omega)
  have b2 := pickI_hi b (n := 8) (by omega)
  have c1 := pickI_lo c (n := 198) (by omega)
  have c2 := pickI_hi c (n := 198) (by omega)
  have d1 := pickI_lo d (n := 6) (by omega)
  have d2 := pickI_hi d (n := 6) (by omega)
  unfold fitM
  simp only
  omega
set_option maxRecDepth 100000 in
set_option maxHeartbeats 1000000 in
theorem fit_k (a b c d : Int) (w : World) (ha : i64B a) (hb : i64B b) (hc : i64B c) (hd : i64B d) :
    Calls Try.prog 26 #[confV a b c d] w fun e w' => e = .returned (confV ((fitM a b c d).workers : Int) ((fitM a b c d).queue : Int) ((fitM a b c d).fuel : Int) ((fitM a b c d).patience : Int)) ∧ Below w.heap.size w w' := by
  have a1 := pickI_lo a (n := 4) (by omega)
  have a2 := pickI_hi a (n := 4) (by omega)
  have b1 := pickI_lo b (n := 8) (by omega)
  have b2 := pickI_hi b (n := 8) (by omega)
  have c1 := pickI_lo c (n := 198) (by omega)
  have c2 := pickI_hi c (n := 198) (by omega)
  have d1 := pickI_lo d (n := 6) (by omega)
  have d2 := pickI_hi d (n := 6) (by omega)
  have hwa : IntKind.i64.wrap (1 + pickI a 4) = ((fitM a b c d).workers : Int) := by rw [IntKind.wrap_i64]; unfold fitM; simp only; omega
  have hwb : IntKind.i64.wrap (1 + pickI b 8) = ((fitM a b c d).queue : Int) := by rw [IntKind.wrap_i64]; unfold fitM; simp only; omega
  have hwc : IntKind.i64.wrap (3 + pickI c 198) = ((fitM a b c d).fuel : Int) := by rw [IntKind.wrap_i64]; unfold fitM; simp only; omega
  have hwd : pickI d 6 = ((fitM a b c d).patience : Int) := by unfold fitM; simp only; omega
  generalize (fitM a b c d).workers = fa at *
  generalize (fitM a b c d).queue = fb at *
  generalize (fitM a b c d).fuel = fc at *
  generalize (fitM a b c d).patience = fd at *
  have HPA : Hid (∀ W : World, Calls Try.prog 30 #[.int .i64 a, .int .i64 4] W fun e w' => e = .returned (.int .i64 (pickI a 4)) ∧ w' = W) := fun W => pick_any a 4 W ha (by decide) (by decide)
  have HPB : Hid (∀ W : World, Calls Try.prog 30 #[.int .i64 b, .int .i64 8] W fun e w' => e = .returned (.int .i64 (pickI b 8)) ∧ w' = W) := fun W => pick_any b 8 W hb (by decide) (by decide)
  have HPC : Hid (∀ W : World, Calls Try.prog 30 #[.int .i64 c, .int .i64 198] W fun e w' => e = .returned (.int .i64 (pickI c 198)) ∧ w' = W) := fun W => pick_any c 198 W hc (by decide) (by decide)
  have HPD : Hid (∀ W : World, Calls Try.prog 30 #[.int .i64 d, .int .i64 6] W fun e w' => e = .returned (.int .i64 (fd : Int)) ∧ w' = W) := fun W => by have := pick_any d 6 W hd (by decide) (by decide); rwa [hwd] at this
  generalize pickI a 4 = ya at *
  generalize pickI b 8 = yb at *
  generalize pickI c 198 = yc at *
  clear a1 a2 b1 b2 c1 c2 d1 d2 hwd ha hb hc hd
  unfold confV
  go_enter Try.func26, Try.ntmps26
  go_wp2
  refine wp_tail 16 (by kernel_rfl) ?_
  simp only [List.take_succ_cons, List.take_zero, List.drop_succ_cons, List.drop_zero]
  still_step
  still_step
  still_call (HPA.out _)
  still_step
  still_step
  still_step
  still_call (HPB.out _)
  still_step
  still_step
  still_step
  still_call (HPC.out _)
  still_step
  still_step
  still_step
  still_call (HPD.out _)
  still_step
  refine wpStill_nil ?_
  go_wp2
  refine bodyPost_ret (v := .agg #[.int .i64 (fa : Int), .int .i64 (fb : Int), .int .i64 (fc : Int), .int .i64 (fd : Int)]) (by simp [results, Try.results26, go_sem]) rfl ?_
  exact ⟨rfl, (((Below.refl _ _).alloc (Nat.le_refl _) _).alloc (by simp) _).drew⟩
set_option maxRecDepth 100000 in
set_option maxHeartbeats 1000000 in
theorem first_own (w : World) :
    Calls Try.prog 9 #[] w fun e w' => ∃ b, e = .returned (.slice (some ⟨b, 0, none⟩) 3 3) ∧ w'.ownsRow w.heap.size 78 4 (.slice (some ⟨b, 0, none⟩) 3 3) fJ.length (stCells fJ) ∧ Below w.heap.size w w' := by
  go_enter Try.func9, Try.ntmps9
  go_wp2
  go_ret
  exact ⟨w.heap.size, rfl, ⟨rfl, Or.inr ⟨w.heap.size, 3, _, rfl, Nat.le_refl _, heap_alloc_new _ _, Nat.le_refl _, (by unfold maxLen; omega), rfl, rfl⟩⟩, (Below.refl _ _).alloc (Nat.le_refl _) _⟩
end Go.Proofs.Ytlbmcdoldnajoab
