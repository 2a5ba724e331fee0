import Derived.Test.YtlbmcdoldnajoaaKPm

namespace Go.Proofs.Ytlbmcdoldnajoaa
/-- an order in which none must stand behind a later one -/
theorem chain_of {fuel : Nat} {gs : List GoodM} {L : Nat → List St} {X : Nat → Mo} (h : GoodsOK fuel gs L X) {σ : List Nat} (hp : σ.Perm (List.range gs.length))
    (hw : σ.Pairwise (fun a b => ¬ Ahead (fun i => (gAt gs i).beg) (fun i k => (gAt gs i).read.getD k false) (fun i k => (gP gs i k).isSome) b a)) :
    chainMap gs σ = mapF gs ∧ ∀ pre i post, σ = pre ++ i :: post → play (L i) (chainMap gs pre) fuel mo0 = X i ∧ mapAfter (L i) (chainMap gs pre) (X i) = chainMap gs (pre ++ [i]) := by
  obtain ⟨hr, hall⟩ := order_reads h.ord (P := gP gs) (fun _ _ => rfl) hp hw
  have hlt : ∀ i ∈ σ, i < gs.length := fun i hi => List.mem_range.1 (hp.mem_iff.1 hi)
  refine ⟨?_, fun pre i post hσ => ?_⟩
  · have e : mapF gs = chainMap gs (List.range gs.length) := by have := mapF_take gs gs.length (Nat.le_refl _); rwa [List.take_length] at this
    rw [e]
    funext k
    by_cases hk : 0 ≤ k ∧ k ≤ 15
    · have := hall k.toNat (-1)
      rwa [show ((k.toNat : Nat) : Int) = k by omega] at this
    · have h1 := (chain_bd h k σ (-1) hlt ⟨⟨by omega, by omega⟩, fun _ => rfl⟩).2 hk
      have h2 := (chain_bd h k (List.range gs.length) (-1) (fun i hi => List.mem_range.1 hi) ⟨⟨by omega, by omega⟩, fun _ => rfl⟩).2 hk
      exact h1.trans h2.symm
  · have hi : i < gs.length := hlt i (by rw [hσ]; simp)
    have hb : (gAt gs i).beg ≤ i := h.ord.begle i hi
    have hx := h.run i hi
    have e1 : play (L i) (chainMap gs pre) fuel mo0 = X i := by
      rw [hx]
      refine (play_same (h.job i hi) fuel mo0 rfl (fun k h0 h1 hk => ?_)).symm
      rw [← hx, ← h.read i hi] at hk
      rw [mapF_take gs _ (by omega)]
      have := hr pre post i hσ k.toNat hk (-1)
      rw [show ((k.toNat : Nat) : Int) = k by omega] at this
      exact this.symm
    refine ⟨e1, ?_⟩
    rw [chainMap_snoc, h.puts i hi, mapAfter]
    by_cases h3 : endState (L i) (X i) = 3
    · rw [if_pos h3, if_pos h3]
    · rw [if_neg h3, if_neg h3]
      funext k
      simp [see]
/-- a step that names no key but those from lo to lo + 3, and reads 15 -/
def ApJ (lo : Nat) (s : St) : Prop := (s.op = 2 → ((lo : Int) ≤ s.b ∧ s.b < lo + 4) ∨ s.b = 15) ∧ (s.op = 3 ∨ s.op = 4 → (lo : Int) ≤ s.a ∧ s.a < lo + 4) ∧ (s.op = 5 ∨ s.op = 6 → (lo : Int) ≤ s.b ∧ s.c < lo + 4)
def InW (lo k : Nat) : Prop := lo ≤ k ∧ k < lo + 4
def InR (lo k : Nat) : Prop := InW lo k ∨ k = 15
theorem rdk_ite {p : Prop} [Decidable p] {a b : Mo} {q : List Bool → Prop} (ha : p → q a.read) (hb : ¬ p → q b.read) : q (if p then a else b).read := by
  by_cases h : p
  · rw [if_pos h]; exact ha h
  · rw [if_neg h]; exact hb h
def RdIn (lo : Nat) (r : List Bool) : Prop := ∀ k : Nat, r.getD k false = true → InR lo k
theorem mark_in {lo : Nat} {p : Int → Option Int} {r : List Bool} {b : Int} (h : RdIn lo r) (hb : InR lo b.toNat) : RdIn lo (mark p r b) := by
  unfold mark
  split
  · exact h
  · intro k hk
    by_cases e : k = b.toNat
    · rw [e]; exact hb
    · refine h k ?_
      simpa [List.getD, List.getElem?_set_ne (Ne.symm e)] using hk
theorem markK_in {lo : Nat} {p : Int → Option Int} {r : List Bool} {b : Int} (h : RdIn lo r) : ∀ n : Nat, (∀ j : Nat, j < n → InR lo (b + j).toNat) → RdIn lo (markK p r b n)
  | 0, _ => h
  | n + 1, hn => mark_in (markK_in h n (fun j hj => hn j (by omega))) (hn n (by omega))
theorem stp_rdin {lo : Nat} {s : St} (hs : ApJ lo s) (m : Int → Int) {x : Mo} (h : RdIn lo x.read) : RdIn lo (stp s m x).read := by
  have hb : ∀ (y : Mo) (a v : Int), RdIn lo y.read → RdIn lo (bec y a v).read := fun y a v h => by rw [bec_read]; exact h
  have hk : (s.op = 5 ∨ s.op = 6) → RdIn lo (markK x.puts x.read s.b (s.c - s.b + 1).toNat) := fun e => by
    have := hs.2.2 e
    exact markK_in h _ fun j hj => Or.inl ⟨by omega, by omega⟩
  unfold stp
  simp only
  refine rdk_ite (fun _ => h) (fun _ => rdk_ite (fun e => ?_) (fun _ => rdk_ite (fun _ => h) (fun _ => rdk_ite (fun _ => h) (fun _ => rdk_ite (fun e => hb _ _ _ (hk (Or.inl e))) (fun _ => rdk_ite (fun e => hb _ _ _ (hk (Or.inr e))) (fun _ => rdk_ite (fun _ => hb _ _ _ h) (fun _ => rdk_ite (fun _ => hb _ _ _ h) (fun _ => rdk_ite (fun _ => rdk_ite (fun _ => h) (fun _ => h)) (fun _ => rdk_ite (fun _ => rdk_ite (fun _ => h) (fun _ => h)) (fun _ => rdk_ite (fun _ => h) (fun _ => rdk_ite (fun _ => h) (fun _ => h))))))))))))
  refine mark_in h ?_
  rcases hs.1 e with e | e
  · exact Or.inl ⟨by omega, by omega⟩
  · exact Or.inr (by omega)
def PtIn (lo : Nat) (p : Int → Option Int) : Prop := ∀ k : Nat, (p k).isSome = true → InW lo k
theorem ptk_ite {p : Prop} [Decidable p] {a b : Mo} {q : (Int → Option Int) → Prop} (ha : p → q a.puts) (hb : ¬ p → q b.puts) : q (if p then a else b).puts := by
  by_cases h : p
  · rw [if_pos h]; exact ha h
  · rw [if_neg h]; exact hb h
theorem put_in {lo : Nat} {x : Mo} {a v : Int} (h : PtIn lo x.puts) (ha : (lo : Int) ≤ a ∧ a < lo + 4) : PtIn lo (putAt x a v).puts := fun k hk => by
  by_cases e : a = (k : Int)
  · exact ⟨by omega, by omega⟩
  · exact h k (by simpa [putAt, e] using hk)
theorem stp_ptin {lo : Nat} {s : St} (hs : ApJ lo s) (m : Int → Int) {x : Mo} (h : PtIn lo x.puts) : PtIn lo (stp s m x).puts := by
  have hb : ∀ (y : Mo) (a v : Int), PtIn lo y.puts → PtIn lo (bec y a v).puts := fun y a v h => by unfold bec; split <;> exact h
  unfold stp
  simp only
  exact ptk_ite (fun _ => h) (fun _ => ptk_ite (fun _ => h) (fun _ => ptk_ite (fun e => put_in (x := { x with done := x.done + 1, pc := x.pc + 1 }) h (hs.2.1 (Or.inl e))) (fun _ => ptk_ite (fun e => put_in (x := { x with done := x.done + 1, pc := x.pc + 1 }) h (hs.2.1 (Or.inr e))) (fun _ => ptk_ite (fun _ => hb _ _ _ h) (fun _ => ptk_ite (fun _ => hb _ _ _ h) (fun _ => ptk_ite (fun _ => hb _ _ _ h) (fun _ => ptk_ite (fun _ => hb _ _ _ h) (fun _ => ptk_ite (fun _ => ptk_ite (fun _ => h) (fun _ => h)) (fun _ => ptk_ite (fun _ => ptk_ite (fun _ => h) (fun _ => h)) (fun _ => ptk_ite (fun _ => h) (fun _ => ptk_ite (fun _ => h) (fun _ => h))))))))))))
theorem play_apin {lo : Nat} {l : List St} (hl : ∀ s ∈ l, ApJ lo s) (m : Int → Int) : ∀ (n : Nat) (x : Mo), RdIn lo x.read → PtIn lo x.puts → RdIn lo (play l m n x).read ∧ PtIn lo (play l m n x).puts
  | 0, _, h1, h2 => ⟨h1, h2⟩
  | n + 1, x, h1, h2 => by
    by_cases hc : x.fin = 0 ∧ x.pc < l.length
    · rw [play_go hc]
      have hs : ApJ lo (l.getD x.pc stz) := hl _ (by simp [List.getD, hc.2])
      exact play_apin hl m n _ (stp_rdin hs m h1) (stp_ptin hs m h2)
    · rw [play_end hc]; exact ⟨h1, h2⟩
theorem play_ap {lo : Nat} {l : List St} (hl : ∀ s ∈ l, ApJ lo s) (m : Int → Int) (n : Nat) : RdIn lo (play l m n mo0).read ∧ PtIn lo (play l m n mo0).puts :=
  play_apin hl m n mo0 (fun k hk => by
    have h2 : (List.replicate 16 false).getD k false = true := hk
    simp only [List.getD, List.getElem?_replicate] at h2
    split at h2 <;> simp at h2) (fun k hk => by simp [mo0] at hk)
/-- the first job ended ahead of all; no other job names a key of another one -/
structure ApI (R : RM) : Prop where
  few : R.d.jobs.length ≤ 4
  goods : 1 ≤ R.d.goods.length ∧ (gAt R.d.goods 0).ticket = 1
  beg : ∀ i, 1 ≤ i → i < R.d.goods.length → 1 ≤ (gAt R.d.goods i).beg
  run : ∀ k, k < R.d.c.workers → (R.d.wk k).ticket ≠ 0 → 1 ≤ (R.d.wk k).beg
  steps : ∀ n, R.d.Has n → 2 ≤ n → ∀ s ∈ (R.d.job n).steps, ApJ (4 * (n - 2)) s
  failed : ∀ n, R.d.Has n → (R.d.job n).failed = 0
  tries : ∀ n, R.d.Has n → (R.d.job n).tries = if (R.d.job n).state = 1 then 0 else 1
theorem ap_goods {R : RM} (h : KInv R) (a : ApI R) {i : Nat} (h1 : 1 ≤ i) (hi : i < R.d.goods.length) : 2 ≤ (gAt R.d.goods i).ticket ∧ (gAt R.d.goods i).ticket ≤ 4 ∧ RdIn (4 * ((gAt R.d.goods i).ticket - 2)) (gAt R.d.goods i).read ∧ PtIn (4 * ((gAt R.d.goods i).ticket - 2)) (gP R.d.goods i) := by
  obtain ⟨g1, g2, g3⟩ := h.inv.g.gjob i hi
  have hn1 : (gAt R.d.goods i).ticket ≠ 1 := fun e => by
    have := h.inv.g.gone i 0 hi (by omega) (by rw [e, a.goods.2])
    omega
  have h2 : 2 ≤ (gAt R.d.goods i).ticket := by have := g1.1; omega
  have hl := a.steps _ g1 h2
  have hp := play_ap hl (mapF (R.d.goods.take (gAt R.d.goods i).beg)) R.d.c.fuel
  refine ⟨h2, by have := g1.2; have := a.few; omega, ?_, ?_⟩
  · rw [h.inv.g.goods.read i hi]; exact hp.1
  · rw [h.inv.g.goods.puts i hi]
    split
    · exact hp.2
    · intro k hk; simp at hk
/-- a partner shares a key -/
theorem partner_share {d : DeskM} {t : GoodM} (h : d.partner t ≠ 0) : ∃ u, t.beg ≤ u ∧ u < d.goods.length ∧ ∃ k : Nat, k < 16 ∧ ((gP d.goods u) k).isSome = true ∧ ((t.puts k).isSome = true ∨ t.read.getD k false = true) := by
  have hg : ∀ u, d.good (u + 1) = gAt d.goods u := fun u => rfl
  have hw : ∀ u, DeskM.share (DeskM.wroteL (d.good (u + 1)).puts) (DeskM.wroteL t.puts) = true → ∃ k : Nat, k < 16 ∧ ((gP d.goods u) k).isSome = true ∧ ((t.puts k).isSome = true ∨ t.read.getD k false = true) := fun u hs => by
    obtain ⟨k, hk, h1, h2⟩ := share_some hs
    rw [wroteL_at _ hk] at h1 h2
    exact ⟨k, hk, h1, Or.inl h2⟩
  have hr : ∀ u, DeskM.share (DeskM.wroteL (d.good (u + 1)).puts) t.read = true → ∃ k : Nat, k < 16 ∧ ((gP d.goods u) k).isSome = true ∧ ((t.puts k).isSome = true ∨ t.read.getD k false = true) := fun u hs => by
    obtain ⟨k, hk, h1, h2⟩ := share_some hs
    rw [wroteL_at _ hk] at h1
    exact ⟨k, hk, h1, Or.inr h2⟩
  by_cases hc : d.clash t ≠ 0
  · obtain ⟨u, hu, hm, hp⟩ := find_some (n := d.clash t) rfl hc
    rw [Bool.and_eq_true] at hp
    exact ⟨u, by simpa using hp.1, by simpa using hm, hw u hp.2⟩
  · by_cases hv : d.pivot t ≠ 0
    · obtain ⟨u, hu, hm, hp⟩ := find_some (n := d.pivot t) rfl hv
      rw [Bool.and_eq_true, Bool.and_eq_true] at hp
      exact ⟨u, by simpa using hp.1.1, by simpa using hm, hr u hp.1.2⟩
    · have e : d.partner t = d.outer t := by unfold DeskM.partner; rw [if_neg hc, if_neg hv]
      have ho : d.outer t ≠ 0 := by rw [← e]; exact h
      obtain ⟨u, hu, hm, hp⟩ := find_some (n := d.outer t) rfl ho
      rw [Bool.and_eq_true, Bool.and_eq_true] at hp
      exact ⟨u, by simpa using hp.1.1, by simpa using hm, hr u hp.1.2⟩
theorem in_apart {n m k : Nat} (hn : 2 ≤ n) (hn4 : n ≤ 4) (hm : 2 ≤ m) (hne : n ≠ m) (h1 : InW (4 * (n - 2)) k) (h2 : InR (4 * (m - 2)) k) : False := by
  unfold InR InW at *
  omega
/-- so none comes to nothing -/
theorem ap_pick {R : RM} (h : KInv R) (a : ApI R) {i : Nat} (hi : i < R.d.c.workers) : ApI (R.pickR i) := by
  have hil : i < R.d.workers.length := by rw [h.inv.wlen]; exact hi
  have hwi : ∀ x k, (R.d.workers.set i x).getD k att0 = if k = i then x else R.d.wk k := fun x k => wk_set hil x k
  obtain ⟨_, hc⟩ := pick_cases h.inv hi
  have hrd := pickR_d R i
  obtain ⟨Q, hQ⟩ : ∃ Q, Q = R.pickR i := ⟨_, rfl⟩
  rw [← hQ] at hrd ⊢
  clear hQ
  generalize (R.d.pick i).1 = e at *
  generalize (R.d.pick i).2.1.1 = k at *
  generalize (R.d.pick i).2.1.2.1 = n at *
  generalize (R.d.pick i).2.1.2.2 = p at *
  cases hc with
  | rest h0 hn he hk hn0 hp =>
    rw [he] at hrd
    exact ⟨by rw [hrd]; exact a.few, by rw [hrd]; exact a.goods, by rw [hrd]; exact a.beg, by rw [hrd]; exact a.run, by rw [hrd]; exact a.steps, by rw [hrd]; exact a.failed, by rw [hrd]; exact a.tries⟩
  | took h0 hn hn0 he hk hp =>
    have hm := next_mem (d := R.d) (by rw [← hn]; exact hn0)
    rw [← hn] at hm
    have hhas : R.d.Has n ∧ (R.d.job n).state = 1 := by
      rcases hm with hm | hm
      · exact ⟨((h.inv.urM n).1 hm).1, ((h.inv.urM n).1 hm).2.1⟩
      · exact ⟨((h.inv.quM n).1 hm).1, ((h.inv.quM n).1 hm).2.1⟩
    have he' : e = { R.d.setJob n { R.d.job n with state := 2, tries := (R.d.job n).tries + 1 } with queue := DeskM.left R.d.queue n, urgent := DeskM.left R.d.urgent n, workers := R.d.workers.set i ⟨n, R.d.goods.length, 0⟩ } := by
      rw [he]; unfold DeskM.taken; simp only; rw [← hn, if_neg hn0]
    have hj : ∀ m, 1 ≤ m → e.job m = if m = n then { R.d.job n with state := 2, tries := (R.d.job n).tries + 1 } else R.d.job m := fun m hm => by rw [he']; exact job_set hhas.1 hm _
    have hjl : e.jobs.length = R.d.jobs.length := by rw [he']; exact set_len _ _ _
    have hh : ∀ m, e.Has m → R.d.Has m := fun m hm => by unfold DeskM.Has at *; rw [hjl] at hm; exact hm
    have hgg : e.goods = R.d.goods := by rw [he']; rfl
    have hcc : e.c = R.d.c := by rw [he']; rfl
    have hwk : ∀ k, e.wk k = if k = i then ⟨n, R.d.goods.length, 0⟩ else R.d.wk k := fun k => by rw [he']; exact hwi _ k
    rw [← hrd] at hj hjl hh hgg hcc hwk
    refine ⟨by rw [hjl]; exact a.few, by rw [hgg]; exact a.goods, by rw [hgg]; exact a.beg, fun k hk ht => ?_, fun m hm h2 => ?_, fun m hm => ?_, fun m hm => ?_⟩
    · rw [hcc] at hk
      rw [hwk] at ht ⊢
      by_cases e1 : k = i
      · rw [if_pos e1]; exact a.goods.1
      · rw [if_neg e1] at ht ⊢; exact a.run k hk ht
    · rw [hj m hm.1]
      by_cases e1 : m = n
      · rw [if_pos e1, ← e1]; exact a.steps m (hh m hm) h2
      · rw [if_neg e1]; exact a.steps m (hh m hm) h2
    · rw [hj m hm.1]
      by_cases e1 : m = n
      · rw [if_pos e1]; exact a.failed n hhas.1
      · rw [if_neg e1]; exact a.failed m (hh m hm)
    · rw [hj m hm.1]
      by_cases e1 : m = n
      · rw [if_pos e1]
        have := a.tries n hhas.1
        rw [if_pos hhas.2] at this
        show (R.d.job n).tries + 1 = 1
        omega
      · rw [if_neg e1]; exact a.tries m (hh m hm)
  | step h0 hn0 he hk hp =>
    have hwk : ∀ k, (e.wk k).ticket = (R.d.wk k).ticket ∧ (e.wk k).beg = (R.d.wk k).beg := fun k => by
      have : e.wk k = if k = i then { R.d.wk i with done := (R.d.wk i).done + 1 } else R.d.wk k := by rw [he]; exact hwi _ k
      rw [this]
      by_cases e1 : k = i
      · rw [if_pos e1, e1]; exact ⟨rfl, rfl⟩
      · rw [if_neg e1]; exact ⟨rfl, rfl⟩
    have hjb : ∀ m, e.job m = R.d.job m := fun m => by rw [he]; rfl
    have hgg : e.goods = R.d.goods := by rw [he]
    have hjl : e.jobs = R.d.jobs := by rw [he]
    have hcc : e.c = R.d.c := by rw [he]
    have hh : ∀ m, e.Has m → R.d.Has m := fun m hm => by unfold DeskM.Has at *; rw [hjl] at hm; exact hm
    rw [← hrd] at hwk hjb hgg hjl hcc hh
    refine ⟨by rw [hjl]; exact a.few, by rw [hgg]; exact a.goods, by rw [hgg]; exact a.beg, fun k hk ht => ?_, fun m hm h2 => by rw [hjb]; exact a.steps m (hh m hm) h2, fun m hm => by rw [hjb]; exact a.failed m (hh m hm), fun m hm => by rw [hjb]; exact a.tries m (hh m hm)⟩
    rw [hcc] at hk
    rw [(hwk k).1] at ht
    rw [(hwk k).2]
    exact a.run k hk ht
  | good h0 hn0 st x t hx hst ht he hk hp =>
    have hhas := h.inv.work i hi (by rw [h0]; exact hn0)
    rw [h0] at hhas
    have hfin : x.fin = 0 ∨ x.fin = 4 ∨ x.fin = 5 := by rw [hx]; exact play_fin _ _ _ _ (Or.inl rfl)
    have hbd : 3 ≤ st ∧ st ≤ 5 := by rw [hst]; exact end_bd hfin
    have hj : ∀ m, 1 ≤ m → e.job m = if m = n then { R.d.job n with state := st, told := x.told } else R.d.job m := fun m hm => by rw [he]; exact job_set hhas.1 hm _
    have hjl : e.jobs.length = R.d.jobs.length := by rw [he]; exact set_len _ _ _
    have hh : ∀ m, e.Has m → R.d.Has m := fun m hm => by unfold DeskM.Has at *; rw [hjl] at hm; exact hm
    have hgg : e.goods = R.d.goods ++ [t] := by rw [he]
    have hcc : e.c = R.d.c := by rw [he]; rfl
    have hwk : ∀ k, e.wk k = if k = i then att0 else R.d.wk k := fun k => by rw [he]; exact hwi _ k
    rw [← hrd] at hj hjl hh hgg hcc hwk
    refine ⟨by rw [hjl]; exact a.few, by rw [hgg]; refine ⟨by simp, ?_⟩; rw [gAt_old (by have := a.goods.1; omega)]; exact a.goods.2, fun q h1 hq => ?_, fun k hk ht => ?_, fun m hm h2 => ?_, fun m hm => ?_, fun m hm => ?_⟩
    · rw [hgg] at hq ⊢
      by_cases e1 : q < R.d.goods.length
      · rw [gAt_old e1]; exact a.beg q h1 e1
      · have : q = R.d.goods.length := by simp at hq; omega
        rw [this, gAt_new, ht]
        exact a.run i hi (by rw [h0]; exact hn0)
    · rw [hcc] at hk
      rw [hwk] at ht ⊢
      by_cases e1 : k = i
      · rw [if_pos e1] at ht; exact absurd rfl ht
      · rw [if_neg e1] at ht ⊢; exact a.run k hk ht
    · rw [hj m hm.1]
      by_cases e1 : m = n
      · rw [if_pos e1, ← e1]; exact a.steps m (hh m hm) h2
      · rw [if_neg e1]; exact a.steps m (hh m hm) h2
    · rw [hj m hm.1]
      by_cases e1 : m = n
      · rw [if_pos e1]; exact a.failed n hhas.1
      · rw [if_neg e1]; exact a.failed m (hh m hm)
    · rw [hj m hm.1]
      by_cases e1 : m = n
      · rw [if_pos e1]
        have := a.tries n hhas.1
        rw [if_neg (by rw [hhas.2.1]; omega)] at this
        show (R.d.job n).tries = if st = 1 then 0 else 1
        rw [if_neg (by omega)]; exact this
      · rw [if_neg e1]; exact a.tries m (hh m hm)
  | fail h0 hn0 q hq hp hp3 j hj hej heg hew hec hk x t hx ht htp =>
    exfalso
    have hhas := h.inv.work i hi (by rw [h0]; exact hn0)
    have hrun := a.run i hi (by rw [h0]; exact hn0)
    rw [h0] at hhas
    obtain ⟨u, hu1, hu2, k, hk, hw, hs⟩ := partner_share htp
    have hub : (R.d.wk i).beg ≤ u := by rw [ht] at hu1; exact hu1
    obtain ⟨g1, g2, g3, g4⟩ := ap_goods h a (i := u) (by omega) hu2
    have hov := goods_over h.inv hu2
    have hne : (gAt R.d.goods u).ticket ≠ n := fun e1 => by
      rw [e1] at hov
      have := hov.1
      rw [hhas.2.1] at this
      omega
    have hov0 := goods_over h.inv (i := 0) (by have := a.goods.1; omega)
    have hn1 : n ≠ 1 := fun e1 => by
      rw [a.goods.2, ← e1] at hov0
      have := hov0.1
      rw [hhas.2.1] at this
      omega
    have h2 : 2 ≤ n := by have := hhas.1.1; omega
    have hpl := play_ap (a.steps n hhas.1 h2) (mapF (R.d.goods.take (R.d.wk i).beg)) R.d.c.fuel
    rw [← hx] at hpl
    have hin : InR (4 * (n - 2)) k := by
      rcases hs with hs | hs
      · rw [ht] at hs
        refine Or.inl (hpl.2 k ?_)
        simp only at hs
        split at hs
        · exact hs
        · simp at hs
      · rw [ht] at hs
        exact hpl.1 k hs
    exact in_apart g1 g2 h2 hne (g4 k hw) hin
/-- where all have ended: in the order of their tickets they do what they did -/
theorem ap_end {R : RM} (h : KInv R) (a : ApI R) (ho : openN R.d = 0) (hnc : ∀ n, R.d.Has n → (R.d.job n).state ≠ 6) :
    ∃ σ : List Nat, σ.length = R.d.jobs.length ∧ (∀ n, n < R.d.jobs.length → σ.getD n 0 < R.d.goods.length ∧ (gAt R.d.goods (σ.getD n 0)).ticket = n + 1) ∧ chainMap R.d.goods σ = mapF R.d.goods ∧
      ∀ n, n < R.d.jobs.length → play (R.d.job (n + 1)).steps (chainMap R.d.goods (σ.take n)) R.d.c.fuel mo0 = R.d.gX (σ.getD n 0) ∧ mapAfter (R.d.job (n + 1)).steps (chainMap R.d.goods (σ.take n)) (R.d.gX (σ.getD n 0)) = chainMap R.d.goods (σ.take (n + 1)) := by
  have hover : ∀ n, R.d.Has n → DeskM.Over (R.d.job n) := fun n hn => by
    have h1 := open_zero ho hn
    have h2 := (h.inv.jobs n hn).2.2
    have h3 := hnc n hn
    exact ⟨by omega, by omega⟩
  have hex : ∀ n, ∃ i, n < R.d.jobs.length → i < R.d.goods.length ∧ (gAt R.d.goods i).ticket = n + 1 := fun n => by
    by_cases hn : n < R.d.jobs.length
    · obtain ⟨i, hi, e⟩ := h.inv.g.gall (n + 1) ⟨by omega, by omega⟩ (hover _ ⟨by omega, by omega⟩)
      exact ⟨i, fun _ => ⟨hi, e⟩⟩
    · exact ⟨0, fun h => absurd h hn⟩
  obtain ⟨f, hf⟩ := Classical.axiomOfChoice hex
  have hnd : ((List.range R.d.jobs.length).map f).Nodup := by
    rw [List.Nodup, List.pairwise_map]
    refine (List.nodup_range (n := R.d.jobs.length)).imp_of_mem fun {x y} hx hy hne e => hne ?_
    have h1 := (hf x (List.mem_range.1 hx)).2
    have h2 := (hf y (List.mem_range.1 hy)).2
    rw [e, h2] at h1
    omega
  have hgl := goods_le h.inv
  have hperm : ((List.range R.d.jobs.length).map f).Perm (List.range R.d.goods.length) := by
    refine (List.perm_ext_iff_of_nodup hnd List.nodup_range).2 fun i => ?_
    rw [List.mem_map, List.mem_range]
    constructor
    · rintro ⟨n, hn, rfl⟩; exact (hf n (List.mem_range.1 hn)).1
    · intro hi
      have g1 := (h.inv.g.gjob i hi).1
      have h1 := g1.1
      have h2 := g1.2
      refine ⟨(gAt R.d.goods i).ticket - 1, List.mem_range.2 (by omega), ?_⟩
      have := hf ((gAt R.d.goods i).ticket - 1) (by omega)
      exact h.inv.g.gone _ i this.1 hi (by rw [this.2]; omega)
  have hgt : ∀ n, n < R.d.jobs.length → ((List.range R.d.jobs.length).map f).getD n 0 = f n := fun n hn => by simp [List.getD, hn]
  have h0 : 0 < R.d.jobs.length := by have := a.goods.1; omega
  have hf0 : f 0 = 0 := h.inv.g.gone _ 0 (hf 0 h0).1 (by have := a.goods.1; omega) (by rw [(hf 0 h0).2, a.goods.2])
  have hfp : ∀ n, n < R.d.jobs.length → 1 ≤ n → 1 ≤ f n := fun n hn h1 => by
    refine Classical.byContradiction fun hc => ?_
    have e : f n = 0 := by omega
    have := (hf n hn).2
    rw [e, a.goods.2] at this
    omega
  have hpw : ((List.range R.d.jobs.length).map f).Pairwise (fun x y => ¬ Ahead (fun i => (gAt R.d.goods i).beg) (fun i k => (gAt R.d.goods i).read.getD k false) (fun i k => (gP R.d.goods i k).isSome) y x) := by
    rw [List.pairwise_map]
    refine (List.pairwise_lt_range (n := R.d.jobs.length)).imp_of_mem fun {x y} hx hy hlt => ?_
    have hx := List.mem_range.1 hx
    have hy := List.mem_range.1 hy
    have hy1 := hfp y hy (by omega)
    obtain ⟨y1, y2, y3, y4⟩ := ap_goods h a hy1 (hf y hy).1
    rw [(hf y hy).2] at y1 y2 y3 y4
    by_cases hx0 : x = 0
    · subst hx0
      rw [hf0]
      rintro ⟨_, ⟨h1, _⟩ | ⟨h1, _⟩ | ⟨h1, _⟩⟩
      · omega
      · have h1 : f y < (gAt R.d.goods 0).beg := h1
        have : (gAt R.d.goods 0).beg ≤ 0 := h.inv.g.goods.ord.begle 0 (by have := a.goods.1; omega)
        omega
      · have h1 : (gAt R.d.goods (f y)).beg ≤ 0 := h1
        have := a.beg _ hy1 (hf y hy).1
        omega
    · obtain ⟨x1, x2, x3, x4⟩ := ap_goods h a (hfp x hx (by omega)) (hf x hx).1
      rw [(hf x hx).2] at x1 x2 x3 x4
      rintro ⟨_, ⟨_, k, k1, k2⟩ | ⟨_, k, k1, k2⟩ | ⟨_, k, k1, k2⟩⟩
      · exact in_apart y1 y2 x1 (by omega) (y4 k k1) (Or.inl (x4 k k2))
      · exact in_apart y1 y2 x1 (by omega) (y4 k k1) (x3 k k2)
      · exact in_apart x1 x2 y1 (by omega) (x4 k k2) (y3 k k1)
  obtain ⟨c1, c2⟩ := chain_of h.inv.g.goods hperm hpw
  refine ⟨(List.range R.d.jobs.length).map f, by simp, fun n hn => by rw [hgt n hn]; exact hf n hn, c1, fun n hn => ?_⟩
  have hlen : n < ((List.range R.d.jobs.length).map f).length := by simpa using hn
  have hsp : (List.range R.d.jobs.length).map f = ((List.range R.d.jobs.length).map f).take n ++ f n :: ((List.range R.d.jobs.length).map f).drop (n + 1) := by
    have e1 : f n = ((List.range R.d.jobs.length).map f)[n] := by simp
    rw [e1, List.getElem_cons_drop, List.take_append_drop]
  have hx := c2 _ _ _ hsp
  have hst : R.d.gL (f n) = (R.d.job (n + 1)).steps := by unfold DeskM.gL; rw [(hf n hn).2]
  rw [hst] at hx
  rw [hgt n hn]
  refine ⟨hx.1, ?_⟩
  rw [hx.2, List.take_succ_eq_append_getElem hlen]
  simp
end Go.Proofs.Ytlbmcdoldnajoaa
