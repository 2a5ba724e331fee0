import Derived.Test.YtlbmcdoldnajoaaGreatEngA
import Derived.Test.YtlbmcdoldnajoaaGreatRefRun
import Derived.Laws.AppendOwnNone
set_option maxRecDepth 100000
set_option maxHeartbeats 1000000
namespace Go.Proofs.YtlbmcdoldnajoaaGreat
open Go.RowKit
def Nexted (l : List St) (m : Int → Int) (fn : Nat) (S : Nat → Prop) (w : World) (px : Spot) (x : Mo) (e : Ending) (w' : World) : Prop :=
  e = .returned (.tuple #[]) ∧ ∃ tv', Eng S w' px tv' (nextE l m fn x).1 (nextE l m fn x).2 (see m (nextE l m fn x).2.puts) ∧ Fr S w w'
theorem next_ended (S : Nat → Prop) (w : World) (px : Spot) (fn : Nat) (tv sv : Value) (st : Int) (x : Mo) (f : Int → Int) (h : Eng S w px tv st x f) (hst : ¬ st = 2) :
    Calls Tryz.prog 76 #[.pointer (some ⟨px.b, px.o, none⟩), sv, .int .i64 fn] w fun e w' => e = .returned (.tuple #[]) ∧ w' = w := by
  have c0 := h.cSt
  clear h
  go_enter Tryz.func76, Tryz.ntmps76
  go_wp2
  refine bodyPost_ret (results_none rfl _ _ _) rfl ?_
  exact ⟨rfl, rfl⟩
theorem next_going (S : Nat → Prop) (w : World) (px : Spot) (fn : Nat) (tv : Value) (ao : Option Addr) (cap : Nat) (x : Mo) (l : List St) (m : Int → Int) (hB : ∀ k, w.heap.size ≤ k → S k) (hj : jobB l = true) (hs : l = [] ∨ ∃ b off, ao = some ⟨b, off, none⟩ ∧ b ≠ px.b ∧ b < w.heap.size ∧ StepsAt w b off l) (hm : ∀ k, m k ≤ 9999) (hfn : fn ≤ 200)
    (h : Eng S w px tv 2 x (see m x.puts)) (hfin : x.fin = 0) (hd : x.done ≤ fn) (hok : MoOk l.length x) :
    Calls Tryz.prog 76 #[.pointer (some ⟨px.b, px.o, none⟩), .slice ao l.length cap, .int .i64 fn] w fun e w' => Nexted l m fn S w px x e w' := by
  have HJ : Hid (jobB l = true) := hj
  have HS : Hid (l = [] ∨ ∃ b off, ao = some ⟨b, off, none⟩ ∧ b ≠ px.b ∧ b < w.heap.size ∧ StepsAt w b off l) := hs
  have HM : Hid (∀ k, m k ≤ 9999) := hm
  have H : Hid (Eng S w px tv 2 x (see m x.puts)) := h
  have HB : Hid (∀ k, w.heap.size ≤ k → S k) := hB
  have HK : Hid (MoOk l.length x) := hok
  have hlen := (jobB_at hj).1
  have hpl := hok.pc
  obtain ⟨ln, hln⟩ : ∃ ln, ln = l.length := ⟨_, rfl⟩
  have HN : Hid (ln = l.length) := hln
  rw [← hln] at hlen hpl ⊢
  have c0 := h.cSt
  have c1 := h.cPc
  have c2 := h.cDone
  have f0 := h.fPx px.o
  have f1 := h.fPx (px.o + 1)
  have f2 := h.fPx (px.o + 2)
  have hlt := h.lt
  have HD : Hid (x.done ≤ fn) := hd
  have hdn : x.done ≤ 200 := by omega
  clear hj hs hm h hok hln hB hd
  have m0 : ¬ ((x.pc : Int) < 0) := by omega
  by_cases hpc : x.pc < ln
  · by_cases hz : x.done = fn
    · have m1 : ¬ ((ln : Int) ≤ (x.pc : Int)) := by omega
      have m2 : ((fn : Int) ≤ (x.done : Int)) := by omega
      have HZ : Hid (x.done = fn) := hz
      clear hz
      go_enter Tryz.func76, Tryz.ntmps76
      go_wp2
      refine bodyPost_ret (results_none rfl _ _ _) rfl ?_
      have e0 : nextE l m fn x = (5, x) := by rw [nextE, if_neg (by have := HN.out; omega), if_pos (by have := HZ.out; omega)]
      refine ⟨rfl, tv, ?_, (Fr.refl _ _).setCell (p := ⟨px.b, _, none⟩) (fun _ => H.out.inS) _⟩
      rw [e0]
      exact H.out.setSt 5
    · have hpc' : x.pc < l.length := by rw [← HN.out]; exact hpc
      have hao : ∃ b off, ao = some ⟨b, off, none⟩ ∧ b ≠ px.b ∧ b < w.heap.size ∧ StepsAt w b off l := by
        rcases HS.out with h | h
        · subst h; simp at hpc'
        · exact h
      clear HS
      obtain ⟨b, off, rfl, hbne, hbw, hst⟩ := hao
      obtain ⟨s0, s1, s2, s3⟩ := hst x.pc hpc'
      clear hst
      obtain ⟨s, hs'⟩ : ∃ s, s = l.getD x.pc stz := ⟨_, rfl⟩
      rw [← hs'] at s0 s1 s2 s3
      have HSt : Hid (s = l.getD x.pc stz) := hs'
      clear hs'
      have hstB : Hid (stB s x.pc l.length = true) := by rw [HSt.out]; exact (jobB_at HJ.out).2 _ hpc'
      have hd' : x.done < fn := by have := HD.out; omega
      have m1 : ¬ ((ln : Int) ≤ (x.pc : Int)) := by omega
      have m2 : ¬ ((fn : Int) ≤ (x.done : Int)) := by omega
      have m3 : (x.pc : Int) < (ln : Int) := by omega
      have m4 : (0 : Int) ≤ (x.pc : Int) := by omega
      have w1 : IntKind.i64.wrap ((x.pc : Int) + 1) = (x.pc : Int) + 1 := by rw [IntKind.wrap_i64]; omega
      have w2 : IntKind.i64.wrap ((x.done : Int) + 1) = (x.done : Int) + 1 := by rw [IntKind.wrap_i64]; omega
      have e0 : Hid (nextE l m fn x = (stOf (stp s m x), stp s m x)) := by show _ = _; rw [nextE, if_neg (by omega), if_neg (by omega), ← HSt.out]
      have HDn : Hid (x.done < fn) := hd'
      clear hz hd'
      go_enter Tryz.func76, Tryz.ntmps76
      go_wp2_with fail
      have hE : Eng S (((w.setCell ⟨px.b, px.o + 2, none⟩ (.int .i64 ((x.done : Int) + 1))).setCell ⟨px.b, px.o + 1, none⟩ (.int .i64 ((x.pc : Int) + 1))).alloc (.cells #[.int .i64 s.op, .int .i64 s.a, .int .i64 s.b, .int .i64 s.c] 95)) px tv 2 (nxt x) (see m x.puts) := by
        have := ((H.out.setDone (x.done + 1)).setPc (x.pc + 1)).alloc (.cells #[.int .i64 s.op, .int .i64 s.a, .int .i64 s.b, .int .i64 s.c] 95)
        rw [show ((x.done + 1 : Nat) : Int) = (x.done : Int) + 1 by omega, show ((x.pc + 1 : Nat) : Int) = (x.pc : Int) + 1 by omega] at this
        exact this.congr (by simp [nxt]) rfl rfl
      have hb1 : Fr S w (((w.setCell ⟨px.b, px.o + 2, none⟩ (.int .i64 ((x.done : Int) + 1))).setCell ⟨px.b, px.o + 1, none⟩ (.int .i64 ((x.pc : Int) + 1))).alloc (.cells #[.int .i64 s.op, .int .i64 s.a, .int .i64 s.b, .int .i64 s.c] 95)) :=
        (((Fr.refl _ _).setCell (p := ⟨px.b, _, none⟩) (fun _ => H.out.inS) _).setCell (p := ⟨px.b, _, none⟩) (fun _ => H.out.inS) _).alloc _
      refine (do_any S _ px tv x m s l.length (by rw [← HN.out]; exact hlen) HK.out hpc' hstB.out HM.out hfin (by omega) hE (fun k hk => HB.out k (by simp at hk; omega))).mono ?_
      rintro e W2 ⟨rfl, tv', hE2, hb2⟩
      have HG : Hid (Nexted l m fn S w px x (.returned (.tuple #[])) W2) := by
        refine ⟨rfl, tv', ?_, hb1.trans hb2 (fun _ _ h => h)⟩
        rw [e0.out]
        exact hE2
      clear hE hb1 hE2 hb2
      go_wp2
      go_end0
      exact HG.out
  · have m1 : ((ln : Int) ≤ (x.pc : Int)) := by omega
    go_enter Tryz.func76, Tryz.ntmps76
    go_wp2
    refine bodyPost_ret (results_none rfl _ _ _) rfl ?_
    have e0 : nextE l m fn x = (3, x) := by rw [nextE, if_pos (by have := HN.out; omega)]
    refine ⟨rfl, tv, ?_, (Fr.refl _ _).setCell (p := ⟨px.b, _, none⟩) (fun _ => H.out.inS) _⟩
    rw [e0]
    exact H.out.setSt 3
def Going (l : List St) (m : Int → Int) (fn : Nat) (S : Nat → Prop) (w0 : World) (px : Spot) (i : Nat) (w' : World) : Prop :=
  ∃ tv st x, Eng S w' px tv st x (see m x.puts) ∧ Fr S w0 w' ∧
    ((st = 2 ∧ x.fin = 0 ∧ x.done = i ∧ i ≤ fn ∧ MoOk l.length x ∧ play l m (fn - i) x = play l m fn mo0) ∨ (st ≠ 2 ∧ st = endState l (play l m fn mo0) ∧ x = play l m fn mo0))
theorem stOf_ne {y : Mo} {s : St} {m : Int → Int} {x : Mo} (hy : y = stp s m x) (hx : x.fin = 0) (h : y.fin ≠ 0) : stOf y ≠ 2 := by
  rw [stOf, if_neg h]
  subst hy
  rcases stp_fin s m x with k | k | k
  · rw [k] at h; exact absurd hx h
  · rw [k]; decide
  · rw [k]; decide
theorem StepsAt.sameE {w w' : World} {b off : Nat} {l : List St} (h : StepsAt w b off l) (hb : w'.heap[b]? = w.heap[b]?) : StepsAt w' b off l := fun i hi => by
  have e : ∀ o, w'.cell? ⟨b, o, none⟩ = w.cell? ⟨b, o, none⟩ := fun o => World.cell?_of_block (w := w) hb
  obtain ⟨h0, h1, h2, h3⟩ := h i hi
  exact ⟨(e _).trans h0, (e _).trans h1, (e _).trans h2, (e _).trans h3⟩
theorem next_any (S : Nat → Prop) (w w0 : World) (px : Spot) (fn i : Nat) (sv : Value) (l : List St) (m : Int → Int) (hB : ∀ k, w0.heap.size ≤ k → S k) (hj : jobB l = true) (ao : Option Addr) (cap : Nat) (hsv : sv = .slice ao l.length cap) (hs : l = [] ∨ ∃ b off, ao = some ⟨b, off, none⟩ ∧ ¬ S b ∧ b < w0.heap.size ∧ StepsAt w0 b off l) (hm : ∀ k, m k ≤ 9999) (hfn : fn ≤ 200)
    (h : Going l m fn S w0 px i w) :
    Calls Tryz.prog 76 #[.pointer (some ⟨px.b, px.o, none⟩), sv, .int .i64 fn] w fun e w' => e = .returned (.tuple #[]) ∧ Going l m fn S w0 px (i + 1) w' := by
  subst hsv
  obtain ⟨tv, st, x, hE, hb, ⟨rfl, h1, h2, h3, h4, h5⟩ | ⟨h1, h2, h3⟩⟩ := h
  · have hs' : l = [] ∨ ∃ b off, ao = some ⟨b, off, none⟩ ∧ b ≠ px.b ∧ b < w.heap.size ∧ StepsAt w b off l := by
      rcases hs with hs | ⟨b, off, k1, k2, k3, k4⟩
      · exact Or.inl hs
      · exact Or.inr ⟨b, off, k1, fun e => k2 (e ▸ hE.inS), Nat.lt_of_lt_of_le k3 hb.size, k4.sameE (hb.block b k3 k2)⟩
    refine (next_going S w px fn tv ao cap x l m (fun k hk => hB k (Nat.le_trans hb.size hk)) hj hs' hm hfn hE h1 (by omega) h4).mono ?_
    rintro e W2 ⟨rfl, tv', hE2, hb2⟩
    refine ⟨rfl, tv', _, _, hE2, hb.trans hb2 (fun _ _ h => h), ?_⟩
    by_cases hpc : l.length ≤ x.pc
    · have e0 : nextE l m fn x = (3, x) := by rw [nextE, if_pos hpc]
      rw [e0]
      have ex : x = play l m fn mo0 := by rw [← h5, play_end (fun h => by omega)]
      exact Or.inr ⟨by show (3 : Int) ≠ 2; decide, by rw [← ex, endState, if_pos h1, if_pos hpc], ex⟩
    · by_cases hz : fn ≤ x.done
      · have e0 : nextE l m fn x = (5, x) := by rw [nextE, if_neg hpc, if_pos hz]
        rw [e0]
        have ex : x = play l m fn mo0 := by rw [← h5, show fn - i = 0 by omega]; rfl
        exact Or.inr ⟨by show (5 : Int) ≠ 2; decide, by rw [← ex, endState, if_pos h1, if_neg hpc], ex⟩
      · have e0 : nextE l m fn x = (stOf (stp (l.getD x.pc stz) m x), stp (l.getD x.pc stz) m x) := by rw [nextE, if_neg hpc, if_neg hz]
        rw [e0]
        have hpc' : x.pc < l.length := by omega
        have hok2 := stp_ok h4 hpc' hm ((jobB_at hj).2 _ hpc')
        have hpl2 : play l m (fn - (i + 1)) (stp (l.getD x.pc stz) m x) = play l m fn mo0 := by
          rw [← h5, show fn - i = (fn - (i + 1)) + 1 by omega, play_go ⟨h1, hpc'⟩]
        by_cases hf2 : (stp (l.getD x.pc stz) m x).fin = 0
        · exact Or.inl ⟨by rw [stOf, if_pos hf2], hf2, by rw [stp_done, h2], by omega, hok2, hpl2⟩
        · have e1 : stp (l.getD x.pc stz) m x = play l m fn mo0 := by rw [← hpl2, play_end (fun h => hf2 h.1)]
          exact Or.inr ⟨stOf_ne rfl h1 hf2, by rw [stOf, if_neg hf2, ← e1, endState, if_neg hf2], e1⟩
  · refine (next_ended S w px fn tv _ st x _ hE h1).mono ?_
    rintro e W2 ⟨rfl, rfl⟩
    exact ⟨rfl, tv, st, x, hE, hb, Or.inr ⟨h1, h2, h3⟩⟩
end Go.Proofs.YtlbmcdoldnajoaaGreat
namespace Go.Proofs.YtlbmcdoldnajoaaGreat
open Go.RowKit
theorem pairsE_any (b o : Nat) (f : Int → Int) (w : World) (hb : b < w.heap.size) (h : MapAt w b o f) :
    Calls Tryz.prog 52 #[.pointer (some ⟨b, o, none⟩)] w fun e w' => Aftered f w e w' := by
  have HM : Hid (MapAt w b o f) := h
  clear h
  obtain ⟨i0, hi, hz0, hz1, hz2⟩ := info_parts Tryz.infoPair
  go_enter Tryz.func52, Tryz.ntmps52
  go_wp2
  go_loopw [3, 4] (fun out k wr => ∃ j : Nat, j ≤ 16 ∧ k = .int .i64 j ∧ AfterRel f w j out wr) (fun _ k _ => 16 - (intOf k).toNat)
  case atStart =>
    refine ⟨0, Nat.zero_le _, rfl, ?_, ?_⟩
    · exact ⟨rfl, Or.inr ⟨w.heap.size, 0, #[], rfl, Nat.le_refl _, heap_alloc_new _ _, Nat.le_refl _, Nat.zero_le _, rfl, rfl⟩⟩
    · exact (Below.refl _ _).alloc (Nat.le_refl _) _
  case round =>
    obtain ⟨j, hj, rfl, hrel⟩ := hrel
    obtain ⟨hown, hbel⟩ := hrel
    have HO : Hid (_root_.Go.World.ownsRow _ w.heap.size 58 2 _ (accL f j).length (prCells (accL f j))) := hown
    have HBl : Hid (Below w.heap.size w wr) := hbel
    clear hown hbel
    by_cases hlt : j < 16
    · have c0 := (HBl.out.cell (p := ⟨b, o + j, none⟩) hb).trans (HM.out.has (k := j) hlt)
      have c1 := (HBl.out.cell (p := ⟨b, o + 16 + j, none⟩) hb).trans (HM.out.val (k := j) hlt)
      have hal := accL_len f j
      have hsize := HBl.out.size
      have HAc : Hid (accL f (j + 1) = accL f j ++ if 0 ≤ f j then [((j : Int), f j)] else []) := accL_succ f j
      have m1 : (j : Int) < 16 := by omega
      by_cases hz : 0 ≤ f j
      · rw [decide_eq_true hz] at c0
        have e1 : pos (f j) = f j := by simp [pos, hz]
        rw [e1] at c1
        obtain ⟨sv, hsv⟩ : ∃ sv, sv = f j := ⟨_, rfl⟩
        rw [← hsv] at c1 HAc hz
        clear hsv e1
        go_wp2_with (at_builtin; refine wpList_append_lies _ (by rfl) _ _ 36 (by rfl) w.heap.size 58 i0 _ 2 16 Tryz.underlying36 hi hz0 hz1 hz2 (by rfl) (by decide) _ _ _ (by rfl) (HO.out.alloc _) ⟨wr.heap.size, 0, none⟩ 1 1 [.int .i64 (j : Int), .int .i64 sv] (by rfl) (by rfl) ?_ ?_ (by decide) ?_ ?_ ?_ _ (by rfl) ?_)
        · exact World.news_of_block (heap_alloc_new _ _)
        · intro u hu; simp at hu; rcases hu with rfl | rfl <;> rfl
        · unfold maxLen; omega
        · omega
        · simp; omega
        · intro g1 cap1 w2 hown2 hgrow2 hat hlt2
          have HO2 : Hid (w2.ownsRow w.heap.size 58 2 (.slice (some ⟨g1, 0, none⟩) ((accL f j).length + 1) cap1) (accL f (j + 1)).length (prCells (accL f (j + 1)))) := by
            rw [HAc.out, if_pos hz, prCells_append, List.length_append]
            exact hown2
          have HB2 : Hid (Below w.heap.size w w2) := (HBl.out.alloc hsize _).grown hgrow2 (by simp; omega) (fun k hk => owns_ge HO.out hk)
          clear hown2 hgrow2 hat hlt2
          go_wp2
          go_roundw
          case rel => exact ⟨j + 1, by omega, by go_num, HO2.out, HB2.out⟩
          case measure => simp [intOf]; omega
      · rw [decide_eq_false hz] at c0
        go_wp2
        go_roundw
        case rel => exact ⟨j + 1, by omega, by go_num, by rw [HAc.out, if_neg hz, List.append_nil]; exact HO.out, HBl.out⟩
        case measure => simp [intOf]; omega
    · obtain rfl : j = 16 := by omega
      go_wp2
      go_ret
      exact ⟨_, rfl, HO.out, HBl.out⟩
end Go.Proofs.YtlbmcdoldnajoaaGreat
namespace Go.Proofs.YtlbmcdoldnajoaaGreat
open Go.RowKit
theorem wBdR (d : Option Tmp) (x : Array (Nat × Operand)) (ty : TypeId) (ps : String) (af : Array Edge) (gd : Option (Nat × Bool)) (a : Act) (w : World) (K : Act → World → Prop) (Q : Exit → Act → World → Prop) :
    Oper.wp Tryz.prog ⟨d, .build 105 x, ty, ps, af, gd⟩ a w K Q = WOp ⟨d, .build 105 x, ty, ps, af, gd⟩ a w K Q := wop_eq _ _ _ _ _
attribute [local go_sem ↓] wStM wStR wLdM wLdR wBdR
theorem wp_bdN {op : Oper} {a : Act} {w : World} {K : Act → World → Prop} {Q : Exit → Act → World → Prop} {T : TypeId} {i j : Nat} {x y : Operand} {u v r : Value} (ho : op.op = .build T #[(i, x), (j, y)]) (hx : a.eval x = u) (hy : a.eval y = v)
    (hr : (Instr.build T #[(i, u), (j, v)]).run Tryz.prog w = .ok r w) (h : K (a.put op.dst r) w) : WOp op a w K Q := by
  constructor
  unfold Oper.wp execOp
  simp only [ho, List.map_toArray, List.map_cons, List.map_nil, hx, hy, hr, Sem.run_bind, Sem.run_pure, Result.andThen_ok]
  exact h
theorem build_run (f : Int → Int) (w : World) : (Instr.build 105 #[(0, .int .i64 2), (4, .agg (mapCells f).toArray)]).run Tryz.prog w = .ok (.agg (engCells 2 mo0 f (.slice none 0 0)).toArray) w := by kernel_rfl
theorem engCells_one (st : Int) (x : Mo) (f : Int → Int) {tv : Value} (ht : ∃ ao n cap, tv = .slice ao n cap) : (engCells st x f tv).toArray.all (·.oneCell') = true := by
  refine all_oneCell_toArray (fun v hv => ?_)
  rcases List.mem_append.1 hv with h | h
  · rcases List.mem_append.1 h with h | h
    · simp at h
      rcases h with rfl | rfl | rfl | ⟨n, _, rfl⟩ <;> rfl
    · exact (Array.all_eq_true_iff_forall_mem.1 (mapCells_one f)) v (by simpa using h)
  · rcases List.mem_append.1 h with h | h
    · obtain ⟨k, _, rfl⟩ := List.mem_map.1 h; rfl
    rcases List.mem_append.1 h with h | h
    · obtain ⟨k, _, rfl⟩ := List.mem_map.1 h; rfl
    · obtain ⟨ao, n, cap, rfl⟩ := ht
      simp at h; subst h; rfl
def sp0 (b : Nat) : Spot := ⟨b, 0, [], [], 105⟩
theorem Eng.blk0 {S : Nat → Prop} {w : World} {b : Nat} {tv : Value} {st : Int} {x : Mo} {f : Int → Int} (h : Eng S w (sp0 b) tv st x f) : w.heap[b]? = some (.cells (engCells st x f tv).toArray 105 (0, 0)) := by simpa [sp0] using h.blk
theorem run_load {w : World} {b : Nat} {st : Int} {x : Mo} {f : Int → Int} {tv : Value} (h : w.heap[b]? = some (.cells (engCells st x f tv).toArray 105 (0, 0))) (hl : x.regs.length = 4) (hd : x.read.length = 16) : w.rangeAt b 0 (engCells st x f tv) ∧ (loadVar 105 ⟨b, 0, none⟩).run Tryz.prog w = .ok (.agg (engCells st x f tv).toArray) w := by
  have hr : w.rangeAt b 0 (engCells st x f tv) := blk_rangeAt (pre := []) (post := []) (by simpa using h) rfl
  exact ⟨hr, run_loadVar_mid w b 0 _ _ _ hr Tryz.underlying105 rfl (by rw [Tryz.sizeRun, engCells_len hl hd])⟩
theorem begin_any (f : Int → Int) (w : World) :
    Calls Tryz.prog 75 #[.agg (mapCells f).toArray] w fun e w' => e = .returned (.agg (engCells 2 mo0 f (.slice none 0 0)).toArray) ∧ Below w.heap.size w w' := by
  obtain ⟨cs, hcs⟩ : ∃ cs, cs = (mapCells f).toArray := ⟨_, rfl⟩
  have HC : Hid (cs = (mapCells f).toArray) := hcs
  obtain ⟨rs, hrs⟩ : ∃ rs, rs = (engCells 2 mo0 f (.slice none 0 0)).toArray := ⟨_, rfl⟩
  have HR : Hid (rs = (engCells 2 mo0 f (.slice none 0 0)).toArray) := hrs
  rw [← hcs, ← hrs]
  clear hcs hrs
  go_enter Tryz.func75, Tryz.ntmps75
  go_wp2
  refine wp_ldN (T := 71) w.heap.size 0 (by rfl) (by rfl) (cs := mapCells f) (by exact MapBlk.at (by rw [HC.out]; exact new0E _ _ _)) (by exact Tryz.underlying71) (by rfl) (by rw [Tryz.sizeMap, length_mapCells]) ?_
  rw [← HC.out]
  go_wp2
  refine wp_bdN (T := 105) (r := .agg rs) (by rfl) (by rfl) (by rfl) (by rw [HC.out, HR.out]; exact build_run f _) ?_
  go_wp2
  refine wp_stN (T := 105) (w.heap.size + 1) (by rfl) (by rfl) (by rfl) (by exact new1E _ _ _) (by rw [HR.out]; exact Tryz.sizeRun) (by rw [HR.out]; rfl) (by rw [HR.out]; exact engCells_one _ _ _ ⟨_, _, _, rfl⟩) ?_
  rintro W hW hF
  have HW : Hid (W.heap[w.heap.size + 1]? = some (.cells (engCells 2 mo0 f (.slice none 0 0)).toArray 105 (0, 0)) ∧ Below w.heap.size w W) := ⟨by rw [← HR.out]; exact hW, (((Below.refl _ w).alloc (Nat.le_refl _) _).alloc (by simp) _).trans (hF.below (by omega) (by simp; omega))⟩
  clear hW hF
  go_wp2
  refine bodyPost_ret (results_cell1 (by rfl) (by rfl) (run_load HW.out.1 rfl rfl).2) rfl ⟨?_, HW.out.2⟩
  rw [HR.out]
theorem owns_lift {w : World} {B B' : Nat} {e : TypeId} {s : Nat} {v : Value} {n : Nat} {xs : List Value} (h : w.ownsRow B e s v n xs) (hb : ∀ k, v.ownBlock = some k → B' ≤ k) : w.ownsRow B' e s v n xs := by
  refine ⟨h.1, ?_⟩
  rcases h.2 with h | ⟨g, cap, cur, rfl, _, r⟩
  · exact Or.inl h
  · exact Or.inr ⟨g, cap, cur, rfl, hb g rfl, r⟩
def RunEnded (l : List St) (m : Int → Int) (fn : Nat) (w : World) (e : Ending) (w' : World) : Prop := ∃ tv, e = .returned (.agg (engCells (endState l (play l m fn mo0)) (play l m fn mo0) (see m (play l m fn mo0).puts) tv).toArray) ∧
  (play l m fn mo0).regs.length = 4 ∧ (play l m fn mo0).read.length = 16 ∧ w'.ownsRow w.heap.size 3 1 tv (play l m fn mo0).told.length ((play l m fn mo0).told.map (Value.int .i64)) ∧ Below w.heap.size w w'
theorem end_any (ao : Option Addr) (cap : Nat) (l : List St) (m : Int → Int) (fn : Nat) (w : World) (hj : jobB l = true) (hs : l = [] ∨ ∃ b off, ao = some ⟨b, off, none⟩ ∧ b < w.heap.size ∧ StepsAt w b off l) (hm : ∀ k, m k ≤ 9999) (hfn : fn ≤ 200) :
    Calls Tryz.prog 48 #[.slice ao l.length cap, .agg (mapCells m).toArray, .int .i64 fn] w fun e w' => RunEnded l m fn w e w' := by
  have HJ : Hid (jobB l = true) := hj
  have HS : Hid (l = [] ∨ ∃ b off, ao = some ⟨b, off, none⟩ ∧ b < w.heap.size ∧ StepsAt w b off l) := hs
  have HM : Hid (∀ k, m k ≤ 9999) := hm
  obtain ⟨sv, hsv⟩ : ∃ sv, sv = Value.slice ao l.length cap := ⟨_, rfl⟩
  have HV : Hid (sv = Value.slice ao l.length cap) := hsv
  obtain ⟨cs, hcs⟩ : ∃ cs, cs = (mapCells m).toArray := ⟨_, rfl⟩
  have HC : Hid (cs = (mapCells m).toArray) := hcs
  rw [← hcs, ← hsv]
  clear hcs hsv hj hs hm
  go_enter Tryz.func48, Tryz.ntmps48
  go_wp2
  refine wp_ldN (T := 71) w.heap.size 0 (by rfl) (by rfl) (cs := mapCells m) (by exact MapBlk.at (by rw [HC.out]; exact new0E _ _ _)) (by exact Tryz.underlying71) (by rfl) (by rw [Tryz.sizeMap, length_mapCells]) ?_
  rw [← HC.out]
  go_wp2_with fail
  rw [HC.out]
  refine (begin_any m _).mono ?_
  rintro e W1 ⟨rfl, hb1⟩
  have HW1 : Hid (W1.heap[w.heap.size + 1]? = some (.cells (engCells 0 mo0 (fun _ => -1) (.slice none 0 0)).toArray 105 (0, 0)) ∧ Below w.heap.size w W1) :=
    ⟨(hb1.block _ (by simp)).trans ((new1E _ _ _).trans (by kernel_rfl)), (((Below.refl _ w).alloc (Nat.le_refl _) _).alloc (by simp) _).trans (hb1.mono (by simp; omega))⟩
  clear hb1
  obtain ⟨rs, hrs⟩ : ∃ rs, rs = (engCells 2 mo0 m (.slice none 0 0)).toArray := ⟨_, rfl⟩
  have HR : Hid (rs = (engCells 2 mo0 m (.slice none 0 0)).toArray) := hrs
  rw [← hrs, ← HC.out]
  clear hrs
  go_wp2
  refine wp_stN (T := 105) W1.heap.size (by rfl) (by rfl) (by rfl) (by exact heap_alloc_new _ _) (by rw [HR.out]; exact Tryz.sizeRun) (by rw [HR.out]; rfl) (by rw [HR.out]; exact engCells_one _ _ _ ⟨_, _, _, rfl⟩) ?_
  rintro W3 hW3 hF3
  have HG : Hid (Going l m fn (fun k => W1.heap.size ≤ k) W1 (sp0 W1.heap.size) 0 W3) := by
    refine ⟨.slice none 0 0, 2, mo0, ⟨Nat.le_refl _, (fun k hk => by cases hk), rfl, (by show (3 : TypeId) ≠ 105; decide), by rw [show see m mo0.puts = m from rfl, show (sp0 W1.heap.size).pre ++ engCells 2 mo0 m (.slice none 0 0) ++ (sp0 W1.heap.size).post = engCells 2 mo0 m (.slice none 0 0) by simp [sp0], ← HR.out]; exact hW3, rfl, rfl, World.ownsRow_nil _ _ _ _⟩, ((Fr.refl _ W1).alloc _).trans hF3 (fun k hk e => by omega), Or.inl ⟨rfl, rfl, rfl, Nat.zero_le _, mo0_ok _, rfl⟩⟩
  clear hW3 hF3
  go_wp2
  go_loopw [8] (fun i wr => ∃ j : Nat, j ≤ 201 ∧ i = .int .i64 j ∧ Going l m fn (fun k => W1.heap.size ≤ k) W1 (sp0 W1.heap.size) j wr) (fun i _ => 201 - (intOf i).toNat)
  case atStart => exact ⟨0, Nat.zero_le _, rfl, HG.out⟩
  case round =>
    obtain ⟨j, hj, rfl, hgo⟩ := hrel
    have HGo : Hid (Going l m fn (fun k => W1.heap.size ≤ k) W1 (sp0 W1.heap.size) j _) := hgo
    clear hgo HG
    by_cases hlt : j < 201
    · have m1 : (j : Int) ≤ 200 := by omega
      have hsz : W1.heap.size ≤ wr.heap.size := by obtain ⟨_, _, _, _, hb, _⟩ := HGo.out; exact hb.size
      have HS1 : Hid (l = [] ∨ ∃ b off, ao = some ⟨b, off, none⟩ ∧ ¬ W1.heap.size ≤ b ∧ b < W1.heap.size ∧ StepsAt W1 b off l) := by
        rcases HS.out with h | ⟨b, off, h1, h2, h3⟩
        · exact Or.inl h
        · exact Or.inr ⟨b, off, h1, Nat.not_le_of_lt (Nat.lt_of_lt_of_le h2 HW1.out.2.size), Nat.lt_of_lt_of_le h2 HW1.out.2.size, h3.below HW1.out.2 h2⟩
      go_wp2_with (go_at_call 76; refine (next_any (fun k => W1.heap.size ≤ k) _ W1 (sp0 W1.heap.size) fn j sv l m (fun _ h => h) HJ.out ao cap HV.out HS1.out HM.out hfn HGo.out).mono ?_; rintro e W4 ⟨rfl, hgo⟩; have HG4 : Hid (Going l m fn (fun k => W1.heap.size ≤ k) W1 (sp0 W1.heap.size) (j + 1) W4) := hgo; clear hgo)
      go_roundw
      case rel => exact ⟨j + 1, by omega, by go_num, HG4.out⟩
      case measure => simp [intOf]; omega
    · have m1 : ¬ ((j : Int) ≤ 200) := by omega
      obtain ⟨tv, st, x, hE, hb, ⟨_, _, h2, h3, _⟩ | ⟨_, h2, h3⟩⟩ := HGo.out
      · omega
      subst h2
      subst h3
      have HE : Hid (Eng (fun k => W1.heap.size ≤ k) wr (sp0 W1.heap.size) tv (endState l (play l m fn mo0)) (play l m fn mo0) (see m (play l m fn mo0).puts)) := hE
      have HB : Hid (Below W1.heap.size W1 wr) := hb.below (fun _ h => h) (Nat.le_refl _)
      have HW4 : Hid (wr.heap[w.heap.size + 1]? = some (.cells (engCells 0 mo0 (fun _ => -1) (.slice none 0 0)).toArray 105 (0, 0))) := (HB.out.block _ (blk_lt HW1.out.1)).trans HW1.out.1
      obtain ⟨qs, hqs⟩ : ∃ qs, qs = engCells (endState l (play l m fn mo0)) (play l m fn mo0) (see m (play l m fn mo0).puts) tv := ⟨_, rfl⟩
      have HQ : Hid (qs = engCells (endState l (play l m fn mo0)) (play l m fn mo0) (see m (play l m fn mo0).puts) tv) := hqs
      have HRg : Hid (wr.rangeAt W1.heap.size 0 qs ∧ qs.length = 72) := by rw [hqs]; exact ⟨(run_load hE.blk0 hE.rlen hE.dlen).1, engCells_len hE.rlen hE.dlen⟩
      clear hE hb hqs HGo
      go_wp2
      refine wp_ldN (T := 105) W1.heap.size 0 (by rfl) (by rfl) (by exact HRg.out.1) (by exact Tryz.underlying105) (by rfl) (by rw [Tryz.sizeRun, HRg.out.2]) ?_
      go_wp2
      refine wp_stN (T := 105) (w.heap.size + 1) (by rfl) (by rfl) (by rfl) (by exact HW4.out) (by rw [Tryz.sizeRun]; simp [HRg.out.2]) (by simp [HRg.out.2, engCells_len (x := mo0) rfl rfl]) (by rw [HQ.out]; exact engCells_one _ _ _ (by obtain ⟨ao, cap, h⟩ := owns_form HE.out.told; exact ⟨_, _, _, h⟩)) ?_
      rintro W5 hW5 hF5
      have HF : Hid (W5.heap[w.heap.size + 1]? = some (.cells qs.toArray 105 (0, 0)) ∧ Fr (fun k => k = w.heap.size + 1) wr W5) := ⟨hW5, hF5⟩
      clear hW5 hF5
      go_wp2
      have hl4 := HE.out.rlen
      have hd4 := HE.out.dlen
      have hld : (loadVar 105 ⟨w.heap.size + 1, 0, none⟩).run Tryz.prog W5 = .ok (.agg qs.toArray) W5 := by
        have := HF.out.1
        rw [HQ.out] at this ⊢
        exact (run_load this hl4 hd4).2
      have hlt1 := blk_lt HW1.out.1
      refine bodyPost_ret (results_cell1 (by rfl) (by rfl) hld) rfl ⟨tv, by rw [HQ.out], hl4, hd4, ?_, ?_⟩
      · exact owns_lift (owns_fr HE.out.told HF.out.2 (fun k hk hs => by have : W1.heap.size ≤ k := HE.out.tS k hk; omega)) (fun k hk => by have : W1.heap.size ≤ k := HE.out.tS k hk; omega)
      · exact (HW1.out.2.trans (HB.out.mono HW1.out.2.size)).trans (HF.out.2.below (by omega) (by have := HW1.out.2.size; have := HB.out.size; omega))
end Go.Proofs.YtlbmcdoldnajoaaGreat
namespace Go.Proofs.YtlbmcdoldnajoaaGreat
open Go.RowKit
attribute [local go_sem ↓] wStM wStR wLdM wLdR
theorem state_any (S : Nat → Prop) (w : World) (px : Spot) (tv : Value) (st : Int) (x : Mo) (f : Int → Int) (h : Eng S w px tv st x f) :
    Calls Tryz.prog 50 #[.pointer (some ⟨px.b, px.o, none⟩)] w fun e w' => e = .returned (.int .i64 st) ∧ w' = w := by
  have c0 := h.cSt
  clear h
  go_enter Tryz.func50, Tryz.ntmps50
  go_wp2
  go_ret
  exact ⟨rfl, rfl⟩
def ToldNew (xs : List Int) (w : World) (e : Ending) (w' : World) : Prop := ∃ v, e = .returned v ∧ w'.ownsRow w.heap.size 3 1 v xs.length (xs.map (Value.int .i64)) ∧ Below w.heap.size w w'
theorem owns_emptyI (w : World) : (w.alloc (.cells #[] 3)).ownsRow w.heap.size 3 1 (.slice (some ⟨w.heap.size, 0, none⟩) 0 0) 0 [] :=
  ⟨rfl, Or.inr ⟨w.heap.size, 0, #[], rfl, Nat.le_refl _, heap_alloc_new _ _, Nat.le_refl _, Nat.zero_le _, rfl, rfl⟩⟩
theorem told_any (S : Nat → Prop) (w : World) (px : Spot) (tv : Value) (st : Int) (x : Mo) (f : Int → Int) (h : Eng S w px tv st x f) (htl : x.told.length ≤ 1000) :
    Calls Tryz.prog 51 #[.pointer (some ⟨px.b, px.o, none⟩)] w fun e w' => ToldNew x.told w e w' := by
  have c39 := h.cTold
  have hlt := h.lt
  obtain ⟨i0, hi, hz0, hz1, hz2⟩ := info_parts Tryz.infoInt
  have HO : Hid (w.ownsRow 0 3 1 tv x.told.length (x.told.map (Value.int .i64))) := h.told
  clear h
  by_cases hn : x.told.length = 0
  · have hx : x.told = [] := List.eq_nil_of_length_eq_zero hn
    have HX : Hid (x.told = []) := hx
    have hv : ∃ ao cap, tv = .slice ao 0 cap ∧ (ao = none → cap = 0) := by
      rcases HO.out.2 with ⟨rfl, _⟩ | ⟨g, cap, cur, rfl, _⟩
      · exact ⟨none, 0, rfl, fun _ => rfl⟩
      · exact ⟨_, cap, by rw [hn], fun h => by cases h⟩
    clear hx HO
    obtain ⟨ao, cap, rfl, hao⟩ := hv
    have hend : Hid (∀ W, W = w.alloc (.cells #[] 3) → ToldNew x.told w (.returned (.slice (some ⟨w.heap.size, 0, none⟩) 0 0)) W) := fun W hW => by
      subst hW
      rw [HX.out]
      exact ⟨_, rfl, owns_emptyI w, (Below.refl _ _).alloc (Nat.le_refl _) _⟩
    cases ao with
    | none =>
      obtain rfl := hao rfl
      go_enter Tryz.func51, Tryz.ntmps51
      go_wp2_with (at_builtin; refine wpList_append_own_none (by rfl) _ _ 55 (by rfl) w.heap.size 3 i0 1 Tryz.underlying55 hi _ _ _ (by rfl) (owns_emptyI w) (by rfl) ?_)
      go_ret
      exact hend.out _ rfl
    | some ad =>
      go_enter Tryz.func51, Tryz.ntmps51
      go_wp2
      go_ret
      exact hend.out _ rfl
  · have hv : ∃ g cap, tv = .slice (some ⟨g, 0, none⟩) x.told.length cap ∧ g < w.heap.size := by
      rcases HO.out.2 with ⟨_, h⟩ | ⟨g, cap, cur, rfl, _, hh, _⟩
      · exact absurd h hn
      · exact ⟨g, cap, rfl, blk_lt hh⟩
    obtain ⟨g, cap, rfl, hg⟩ := hv
    obtain ⟨n, hnn⟩ : ∃ n, n = x.told.length := ⟨_, rfl⟩
    have HN : Hid (n = x.told.length) := hnn
    rw [← hnn] at c39 hn htl
    have HC : Hid (∀ j u, (x.told.map (Value.int .i64))[j]? = some u → w.cell? ⟨g, j, none⟩ = some u) := fun j u hj => by
      have hlt : j < x.told.length := by simpa using (List.getElem?_eq_some_iff.1 hj).1
      have := HO.out.cellAt j (by omega)
      rw [this]; exact hj
    clear hnn HO
    go_enter Tryz.func51, Tryz.ntmps51
    go_wp2_with (at_builtin; refine wpList_append_lies _ (by rfl) _ _ 55 (by rfl) w.heap.size 3 i0 _ 1 8 Tryz.underlying55 hi hz0 hz1 hz2 (by rfl) (by decide) _ _ _ (by rfl) (owns_emptyI w) ⟨g, 0, none⟩ n cap (x.told.map (Value.int .i64)) (by rfl) ?_ ?_ ?_ (by omega) ?_ ?_ ?_ _ (by rfl) ?_)
    · rw [HN.out]; simp
    · intro j u hj
      have := HC.out j u hj
      rw [Addr.add_mid, Nat.zero_add]
      exact ((Below.refl w.heap.size w).alloc (Nat.le_refl _) _).cell (p := ⟨g, j, none⟩) hg |>.trans this
    · intro u hu; obtain ⟨k, _, rfl⟩ := List.mem_map.1 hu; rfl
    · unfold maxLen; omega
    · omega
    · simp
    · intro g1 cap1 w2 hown2 hgrow2 hat hlt2
      have HT : Hid (ToldNew x.told w (.returned (.slice (some ⟨g1, 0, none⟩) (0 + n) cap1)) w2) :=
        ⟨_, rfl, by rw [← HN.out]; simpa using hown2, ((Below.refl w.heap.size w).alloc (Nat.le_refl _) _).grown hgrow2 (by simp) (fun k hk => by injection hk with hk; exact Nat.le_of_eq hk)⟩
      clear hown2 hgrow2 hat hlt2
      go_wp2
      go_ret
      simpa using HT.out
end Go.Proofs.YtlbmcdoldnajoaaGreat
namespace Go.Proofs.YtlbmcdoldnajoaaGreat
open Go.RowKit
theorem wLdK (d : Option Tmp) (x : Operand) (ty : TypeId) (ps : String) (af : Array Edge) (gd : Option (Nat × Bool)) (a : Act) (w : World) (K : Act → World → Prop) (Q : Exit → Act → World → Prop) :
    Oper.wp Tryz.prog ⟨d, .load 103 x, ty, ps, af, gd⟩ a w K Q = WOp ⟨d, .load 103 x, ty, ps, af, gd⟩ a w K Q := wop_eq _ _ _ _ _
theorem wStK (d : Option Tmp) (x y : Operand) (ty : TypeId) (ps : String) (af : Array Edge) (gd : Option (Nat × Bool)) (a : Act) (w : World) (K : Act → World → Prop) (Q : Exit → Act → World → Prop) :
    Oper.wp Tryz.prog ⟨d, .store 103 x y, ty, ps, af, gd⟩ a w K Q = WOp ⟨d, .store 103 x y, ty, ps, af, gd⟩ a w K Q := wop_eq _ _ _ _ _
attribute [local go_sem ↓] wStM wStR wLdM wLdR wLdK wStK
theorem Tryz.sizeK : (Tryz.prog.info? 103).map (·.size) = some 16 := by kernel_rfl
def wrB (p : Int → Option Int) : List Bool := (List.range 16).map fun k : Nat => (p k).isSome
def noB : List Bool := List.replicate 16 false
theorem noB_get (k : Nat) : noB.getD k false = false := by
  unfold noB
  simp only [List.getD, List.getElem?_replicate]
  split <;> rfl
theorem wrB_cells (p : Int → Option Int) : rdCells (wrB p) = wrCells p := by simp [rdCells, wrB, wrCells]
theorem wrB_len (p : Int → Option Int) : (wrB p).length = 16 := by simp [wrB]
theorem rdCells_one (l : List Bool) : (rdCells l).toArray.all (·.oneCell') = true := by
  refine all_oneCell_toArray (fun v hv => ?_)
  obtain ⟨k, _, rfl⟩ := List.mem_map.1 hv; rfl
theorem setZ : (#[.bool false, .bool false, .bool false, .bool false, .bool false, .bool false, .bool false, .bool false, .bool false, .bool false, .bool false, .bool false, .bool false, .bool false, .bool false, .bool false] : Array Value) = (rdCells noB).toArray := by rfl
def SetBlk (w : World) (b : Nat) (l : List Bool) : Prop := w.heap[b]? = some (.cells (rdCells l).toArray 103 (0, 0))
theorem SetBlk.at {w : World} {b : Nat} {l : List Bool} (h : SetBlk w b l) : w.rangeAt b 0 (rdCells l) := blk_rangeAt (pre := []) (post := []) (by simpa [SetBlk] using h) rfl
theorem SetBlk.load {w : World} {b : Nat} {l : List Bool} (h : SetBlk w b l) (hl : l.length = 16) : (loadVar 103 ⟨b, 0, none⟩).run Tryz.prog w = .ok (.agg (rdCells l).toArray) w :=
  run_loadVar_mid w b 0 _ _ _ h.at Tryz.underlying103 rfl (by rw [Tryz.sizeK, length_rdCells, hl])
theorem SetBlk.cell {w : World} {b : Nat} {l : List Bool} (h : SetBlk w b l) {n : Nat} (hn : n < l.length) : w.cell? ⟨b, 0 + n, none⟩ = some (.bool (l.getD n false)) := h.at n _ (by simp [rdCells, List.getD, hn])
def wroteB (st : Int) (x : Mo) : List Bool := if st = 3 then wrB x.puts else noB
theorem wroteB_len (st : Int) (x : Mo) : (wroteB st x).length = 16 := by unfold wroteB; split; exact wrB_len _; rfl
def GaveSet (l : List Bool) (w : World) (e : Ending) (w' : World) : Prop := e = .returned (.agg (rdCells l).toArray) ∧ Below w.heap.size w w'
theorem wrote_any (S : Nat → Prop) (w : World) (px : Spot) (tv : Value) (st : Int) (x : Mo) (f : Int → Int) (h : Eng S w px tv st x f) :
    Calls Tryz.prog 77 #[.pointer (some ⟨px.b, px.o, none⟩)] w fun e w' => GaveSet (wroteB st x) w e w' := by
  have c0 := h.cSt
  have H : Hid (Eng S w px tv st x f) := h
  have hlt := h.lt
  clear h
  by_cases hst : st = 3
  · subst hst
    have e0 : wroteB 3 x = wrB x.puts := rfl
    rw [e0]
    go_enter Tryz.func77, Tryz.ntmps77
    go_wp2
    refine wp_ldN (T := 103) px.b (px.o + 55) (by rfl) (by rfl) (cs := wrCells x.puts) (by exact (H.out.alloc _).rangeW) (by exact Tryz.underlying103) (by rfl) (by rw [Tryz.sizeK, length_wrCells]) ?_
    rw [← wrB_cells]
    obtain ⟨ws, hws⟩ : ∃ ws, ws = (rdCells (wrB x.puts)).toArray := ⟨_, rfl⟩
    rw [← hws]
    have HW : Hid (ws = (rdCells (wrB x.puts)).toArray) := hws
    clear hws
    go_wp2
    refine wp_stN (T := 103) w.heap.size (by rfl) (by rfl) (by rfl) (by exact heap_alloc_new _ _) (by rw [HW.out]; exact Tryz.sizeK) (by rw [HW.out]; rfl) (by rw [HW.out]; exact rdCells_one _) ?_
    rintro W hW hF
    have HX : Hid (SetBlk W w.heap.size (wrB x.puts) ∧ Below w.heap.size w W) := ⟨by rw [HW.out] at hW; exact hW, ((Below.refl _ w).alloc (Nat.le_refl _) _).trans (hF.below (by omega) (by simp))⟩
    clear hW hF
    go_wp2
    exact bodyPost_ret (results_cell1 (by rfl) (by rfl) (HX.out.1.load (wrB_len _))) rfl ⟨rfl, HX.out.2⟩
  · have e0 : wroteB st x = noB := by rw [wroteB, if_neg hst]
    rw [e0]
    go_enter Tryz.func77, Tryz.ntmps77
    go_wp2
    refine wp_stN (T := 103) w.heap.size (by rfl) (by rfl) (by rfl) (by exact heap_alloc_new _ _) (by exact Tryz.sizeK) (by rfl) (by exact setZ ▸ rdCells_one _) ?_
    rintro W hW hF
    have HX : Hid (SetBlk W w.heap.size noB ∧ Below w.heap.size w W) := ⟨by rw [setZ] at hW; exact hW, ((Below.refl _ w).alloc (Nat.le_refl _) _).trans (hF.below (by omega) (by simp))⟩
    clear hW hF
    go_wp2
    exact bodyPost_ret (results_cell1 (by rfl) (by rfl) (HX.out.1.load rfl)) rfl ⟨rfl, HX.out.2⟩
theorem read_any (S : Nat → Prop) (w : World) (px : Spot) (tv : Value) (st : Int) (x : Mo) (f : Int → Int) (h : Eng S w px tv st x f) :
    Calls Tryz.prog 114 #[.pointer (some ⟨px.b, px.o, none⟩)] w fun e w' => GaveSet x.read w e w' := by
  have H : Hid (Eng S w px tv st x f) := h
  have hd := h.dlen
  clear h
  go_enter Tryz.func114, Tryz.ntmps114
  go_wp2
  refine wp_ldN (T := 103) px.b (px.o + 39) (by rfl) (by rfl) (cs := rdCells x.read) (by exact (H.out.alloc _).rangeD) (by exact Tryz.underlying103) (by rfl) (by rw [Tryz.sizeK, length_rdCells, hd]) ?_
  obtain ⟨ws, hws⟩ : ∃ ws, ws = (rdCells x.read).toArray := ⟨_, rfl⟩
  rw [← hws]
  have HW : Hid (ws = (rdCells x.read).toArray) := hws
  clear hws
  go_wp2
  refine wp_stN (T := 103) w.heap.size (by rfl) (by rfl) (by rfl) (by exact heap_alloc_new _ _) (by rw [HW.out, Tryz.sizeK]; simp [length_rdCells, hd]) (by rw [HW.out]; simp [length_rdCells, hd]) (by rw [HW.out]; exact rdCells_one _) ?_
  rintro W hW hF
  have HX : Hid (SetBlk W w.heap.size x.read ∧ Below w.heap.size w W) := ⟨by rw [HW.out] at hW; exact hW, ((Below.refl _ w).alloc (Nat.le_refl _) _).trans (hF.below (by omega) (by simp))⟩
  clear hW hF
  go_wp2
  refine bodyPost_ret (results_cell1 (by rfl) (by rfl) (HX.out.1.load hd)) rfl ⟨rfl, HX.out.2⟩
structure MapIn (w : World) (my : Spot) (g : Int → Int) : Prop where
  off : my.pre.length = my.o
  blk : w.heap[my.b]? = some (.cells (my.pre ++ mapCells g ++ my.post).toArray my.ty (0, 0))
namespace MapIn
variable {w : World} {my : Spot} {g : Int → Int}
theorem mapAt (h : MapIn w my g) : MapAt w my.b my.o g := blk_rangeAt h.blk h.off
theorem free (h : MapIn w my g) (i : Nat) : w.frozen? ⟨my.b, i, none⟩ = false := blk_free h.blk
theorem lt (h : MapIn w my g) : my.b < w.heap.size := blk_lt h.blk
theorem fr {w' : World} {R : Nat → Prop} (h : MapIn w my g) (hf : Fr R w w') (hS : ¬ R my.b) : MapIn w' my g := ⟨h.off, hf.blk h.blk hS⟩
theorem drew (h : MapIn w my g) : MapIn w.drew my g := ⟨h.off, h.blk⟩
theorem congr {g' : Int → Int} (h : MapIn w my g) (e : ∀ k : Nat, k < 16 → g k = g' k) : MapIn w my g' := by
  have : mapCells g = mapCells g' := by
    unfold mapCells
    congr 1
    · exact List.map_congr_left (fun j hj => by rw [e j (List.mem_range.1 hj)])
    · exact List.map_congr_left (fun j hj => by rw [e j (List.mem_range.1 hj)])
  exact ⟨h.off, by rw [← this]; exact h.blk⟩
theorem take (h : MapIn w my g) {n : Nat} (hn : n < 16) (v : Int) : MapIn ((w.setCell ⟨my.b, my.o + n, none⟩ (.bool (decide (0 ≤ v)))).setCell ⟨my.b, my.o + 16 + n, none⟩ (.int .i64 (pos v))) my (fun j => if (n : Int) = j then v else g j) := by
  refine ⟨h.off, ?_⟩
  have e : ((mapCells g).set n (.bool (decide (0 ≤ v)))).set (16 + n) (.int .i64 (pos v)) = mapCells (fun j => if (n : Int) = j then v else g j) := by
    refine mapCells_set g _ n _ _ hn (fun j _ => ?_) (fun j _ => ?_)
    · by_cases h : j = n
      · subst h; simp
      · rw [if_neg h, if_neg (by omega)]
    · by_cases h : j = n
      · subst h; simp
      · rw [if_neg h, if_neg (by omega)]
  rw [blk_set (blk_set h.blk _ _), List.setIfInBounds_toArray, List.setIfInBounds_toArray, ← h.off, Nat.add_assoc, mid_set _ _ _ _ _ (by rw [length_mapCells]; omega), mid_set _ _ _ _ _ (by rw [List.length_set, length_mapCells]; omega), e]
end MapIn
def TookK (w : World) (my : Spot) (g : Int → Int) (e : Ending) (w' : World) : Prop := e = .returned (.tuple #[]) ∧ MapIn w' my g ∧ Fr (fun k => k = my.b) w w'
theorem take_any (w : World) (my : Spot) (b' o' : Nat) (f g : Int → Int) (k : Int) (h : MapIn w my f) (h' : MapAt w b' o' g) (hb : my.b ≠ b') (h0 : 0 ≤ k) (h1 : k ≤ 15) :
    Calls Tryz.prog 79 #[.pointer (some ⟨my.b, my.o, none⟩), .int .i64 k, .pointer (some ⟨b', o', none⟩)] w fun e w' => TookK w my (fun j => if k = j then g k else f j) e w' := by
  obtain ⟨n, rfl⟩ : ∃ n : Nat, k = n := ⟨k.toNat, by omega⟩
  have c0 := h.mapAt.has (k := n) (by omega)
  have c1 := h.mapAt.val (k := n) (by omega)
  have d0 := h'.has (k := n) (by omega)
  have d1 := h'.val (k := n) (by omega)
  have f0 := h.free (my.o + n)
  have f1 := h.free (my.o + 16 + n)
  have ne : ¬ my.o + 16 + n = my.o + n := by omega
  have ne' : ¬ my.o + n = my.o + 16 + n := by omega
  have nb : ¬ b' = my.b := fun e => hb e.symm
  have nb' : ¬ my.b = b' := hb
  have n16 : (n : Int) < 16 := by omega
  have H : Hid (MapIn w my f) := h
  obtain ⟨hg, hhg⟩ : ∃ hg, hg = decide (0 ≤ g n) := ⟨_, rfl⟩
  obtain ⟨pg, hpg⟩ : ∃ pg, pg = pos (g n) := ⟨_, rfl⟩
  have HG : Hid (hg = decide (0 ≤ g n)) := hhg
  have HP : Hid (pg = pos (g n)) := hpg
  rw [← hhg] at d0
  rw [← hpg] at d1
  clear h h' hhg hpg
  go_enter Tryz.func79, Tryz.ntmps79
  go_wp2
  go_region
  all_goals
    go_wp2
    go_region
    all_goals
      refine bodyPost_end (results_none rfl _ _ _) rfl ?_
      rw [HG.out, HP.out]
      exact ⟨rfl, ((H.out.take (n := n) (by omega) (g n)).drew).drew, ((((Fr.refl (fun k => k = my.b) _).setCell (p := ⟨my.b, _, none⟩) (fun _ => rfl) _).setCell (p := ⟨my.b, _, none⟩) (fun _ => rfl) _).drew).drew⟩
def appl (p : List Bool) (f g : Int → Int) (j : Int) : Int → Int := fun k => if k < j ∧ p.getD k.toNat false = true then f k else g k
def Applied (w : World) (my : Spot) (g : Int → Int) (e : Ending) (w' : World) : Prop := e = .returned (.tuple #[]) ∧ MapIn w' my g ∧ Fr (fun k => k = my.b) w w'
theorem apply_b (S : Nat → Prop) (w : World) (px my : Spot) (tv : Value) (st : Int) (x : Mo) (f g : Int → Int) (h : Eng S w px tv st x f) (hm : MapIn w my g) (hb : my.b ≠ px.b) :
    Calls Tryz.prog 49 #[.pointer (some ⟨px.b, px.o, none⟩), .pointer (some ⟨my.b, my.o, none⟩)] w fun e w' => Applied w my (appl (wroteB st x) f g 16) e w' := by
  have H : Hid (Eng S w px tv st x f) := h
  have HM : Hid (MapIn w my g) := hm
  have hlt := h.lt
  have hlm := hm.lt
  clear h hm
  obtain ⟨wb, hwb⟩ : ∃ wb, wb = wroteB st x := ⟨_, rfl⟩
  have hwl : wb.length = 16 := by rw [hwb]; exact wroteB_len _ _
  have HWB : Hid (wb = wroteB st x) := hwb
  rw [← hwb]
  clear hwb
  go_enter Tryz.func49, Tryz.ntmps49
  go_wp2_with fail
  refine (wrote_any S w px tv st x f H.out).mono ?_
  rintro e W1 ⟨rfl, hb1⟩
  rw [← HWB.out]
  have HB1 : Hid (Below w.heap.size w W1) := hb1
  have hs1 := hb1.size
  clear hb1
  obtain ⟨ws, hws⟩ : ∃ ws, ws = (rdCells wb).toArray := ⟨_, rfl⟩
  rw [← hws]
  have HW : Hid (ws = (rdCells wb).toArray) := hws
  clear hws
  go_wp2
  refine wp_stN (T := 103) W1.heap.size (by rfl) (by rfl) (by rfl) (by exact heap_alloc_new _ _) (by rw [HW.out, Tryz.sizeK]; simp [length_rdCells, hwl]) (by rw [HW.out]; simp [length_rdCells, hwl]) (by rw [HW.out]; exact rdCells_one _) ?_
  rintro W2 hW2 hF2
  have HX : Hid (SetBlk W2 W1.heap.size wb ∧ Below w.heap.size w W2) := ⟨by rw [HW.out] at hW2; exact hW2, HB1.out.trans (((Below.refl _ W1).alloc hs1 _).trans (hF2.below (by omega) (by simp; omega)))⟩
  clear hW2 hF2
  go_wp2
  go_loopw [5] (fun i wr => ∃ j : Nat, j ≤ 16 ∧ i = .int .i64 j ∧ MapIn wr my (appl wb f g j) ∧ Fr (fun k => k = my.b) W2 wr) (fun i _ => 16 - (intOf i).toNat)
  case atStart =>
    refine ⟨0, Nat.zero_le _, rfl, (HM.out.fr (R := fun _ => False) (Fr.of_below HX.out.2) (fun h => h)).congr (fun k _ => ?_), Fr.refl _ _⟩
    rw [appl, if_neg (by omega)]
  case round =>
    obtain ⟨j, hj, rfl, hmap, hfr⟩ := hrel
    have HR : Hid (MapIn wr my (appl wb f g j) ∧ Fr (fun k => k = my.b) W2 wr) := ⟨hmap, hfr⟩
    clear hmap hfr
    by_cases hlt : j < 16
    · have m1 : (j : Int) < 16 := by omega
      have hg : wr.cell? ⟨W1.heap.size, 0 + j, none⟩ = some (.bool (wb.getD j false)) := (HR.out.2.cell (blk_lt HX.out.1) (by omega)).trans (HX.out.1.cell (by omega))
      have ha : Hid (∀ k : Nat, k < 16 → k ≠ j → appl wb f g j k = appl wb f g ((j + 1 : Nat) : Int) k) := fun k hk e => by
        unfold appl
        by_cases e2 : k < j
        · by_cases e3 : wb.getD (k : Int).toNat false = true
          · rw [if_pos ⟨by omega, e3⟩, if_pos ⟨by omega, e3⟩]
          · rw [if_neg (fun h => e3 h.2), if_neg (fun h => e3 h.2)]
        · rw [if_neg (by omega), if_neg (by omega)]
      have HF : Hid (wb.getD j false = wb.getD j false) := rfl
      cases hp : wb.getD j false
      · rw [hp] at hg
        go_wp2_with fail
        refine (has_any _ W1.heap.size 0 false j (by rw [Int.toNat_natCast]; exact hg) (by omega) (by omega)).mono ?_
        rintro e W3 ⟨rfl, hW⟩
        obtain rfl := hW.symm
        clear hW
        go_wp2
        go_roundw
        case rel =>
          refine ⟨j + 1, by omega, by go_num, HR.out.1.congr (fun k hk => ?_), HR.out.2⟩
          by_cases e : k = j
          · subst e; unfold appl; rw [if_neg (by omega), if_neg (by rw [Int.toNat_natCast, hp]; simp)]
          · exact ha.out k hk e
        case measure => simp [intOf]; omega
      · rw [hp] at hg
        have hEn : Hid (MapAt wr px.b (px.o + 7) f) := fun i v hv => (HR.out.2.cell (by have := HX.out.2.size; have := H.out.lt; omega) (fun e => hb e.symm)).trans ((H.out.fr (R := fun _ => False) (Fr.of_below HX.out.2) (fun _ _ h => h)).map i v hv)
        go_wp2_with fail
        refine (has_any _ W1.heap.size 0 true j (by rw [Int.toNat_natCast]; exact hg) (by omega) (by omega)).mono ?_
        rintro e W3 ⟨rfl, hW⟩
        obtain rfl := hW.symm
        clear hW
        go_wp2_with fail
        refine (take_any _ my px.b (px.o + 7) _ f j HR.out.1 hEn.out hb (by omega) (by omega)).mono ?_
        rintro e W2' ⟨rfl, hW2, hF2⟩
        have HX2 : Hid (MapIn W2' my (appl wb f g ((j + 1 : Nat) : Int)) ∧ Fr (fun k => k = my.b) W2 W2') := by
          refine ⟨hW2.congr (fun k hk => ?_), HR.out.2.trans hF2 (fun _ _ h => h)⟩
          by_cases e : k = j
          · subst e; rw [if_pos rfl]; unfold appl; rw [if_pos ⟨by omega, by rw [Int.toNat_natCast]; exact hp⟩]
          · rw [if_neg (by omega)]; exact ha.out k hk e
        clear hW2 hF2
        go_wp2
        go_roundw
        case rel => exact ⟨j + 1, by omega, by go_num, HX2.out.1, HX2.out.2⟩
        case measure => simp [intOf]; omega
    · obtain rfl : j = 16 := by omega
      go_wp2
      go_end0
      exact ⟨rfl, HR.out.1, (Fr.of_below HX.out.2).trans HR.out.2 (fun _ _ h => h)⟩
theorem apply_any (S : Nat → Prop) (w : World) (px my : Spot) (tv : Value) (st : Int) (x : Mo) (m g : Int → Int) (h : Eng S w px tv st x (see m x.puts)) (hm : MapIn w my g) (hb : my.b ≠ px.b) :
    Calls Tryz.prog 49 #[.pointer (some ⟨px.b, px.o, none⟩), .pointer (some ⟨my.b, my.o, none⟩)] w fun e w' => Applied w my (if st = 3 then see g x.puts else g) e w' := by
  refine (apply_b S w px my tv st x _ g h hm hb).mono ?_
  rintro e W ⟨rfl, h1, h2⟩
  refine ⟨rfl, h1.congr (fun k hk => ?_), h2⟩
  unfold appl
  rw [Int.toNat_natCast]
  by_cases hst : st = 3
  · rw [if_pos hst, wroteB, if_pos hst]
    have e : (wrB x.puts).getD k false = (x.puts k).isSome := by simp [wrB, List.getD, hk]
    rw [e]
    unfold see
    cases hp : x.puts k with
    | none => simp
    | some v => rw [if_pos ⟨by omega, rfl⟩]; rfl
  · rw [if_neg hst, wroteB, if_neg hst, if_neg]
    intro h
    have := h.2
    rw [noB_get] at this
    cases this
end Go.Proofs.YtlbmcdoldnajoaaGreat
