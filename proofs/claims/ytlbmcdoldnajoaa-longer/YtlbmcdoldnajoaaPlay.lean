/- The document's own 'Play'. -/
import Derived.Test.YtlbmcdoldnajoaaDoesAny
import Derived.Deep.LoopGhost
namespace Go.Proofs.Ytlbmcdoldnajoaa
open Go.RowKit

theorem play_zero (l : List St) (m : Int → Int) (x : Mo) : play l m 0 x = x := rfl
theorem play_go {l : List St} {m : Int → Int} {n : Nat} {x : Mo} (h : x.fin = 0 ∧ x.pc < l.length) : play l m (n + 1) x = play l m n (stp (l.getD x.pc stz) m x) := by rw [play, if_pos h]
theorem play_end {l : List St} {m : Int → Int} {n : Nat} {x : Mo} (h : ¬ (x.fin = 0 ∧ x.pc < l.length)) : play l m n x = x := by
  cases n with
  | zero => rfl
  | succ n => rw [play, if_neg h]

theorem jobB_at {l : List St} (h : jobB l = true) : l.length ≤ 32 ∧ ∀ i, i < l.length → stB (l.getD i stz) i l.length = true := by
  simp only [jobB, Bool.and_eq_true, decide_eq_true_eq, List.all_eq_true, List.mem_range] at h
  exact h

theorem owns_ge {w : World} {base : Nat} {e : TypeId} {size : Nat} {v : Value} {n : Nat} {xs : List Value} (h : w.ownsRow base e size v n xs) {k : Nat} (hk : v.ownBlock = some k) : base ≤ k := by
  rcases h.2 with ⟨rfl, _⟩ | ⟨g, cap, cur, rfl, hb, _⟩
  · cases hk
  · injection hk with hk
    have e : g = k := hk
    omega

theorem Mom.own_ge {B : Nat} {w : World} {px rb db : Nat} {pv tv : Value} {x : Mo} {pl : List (Int × Int)} (h : Mom B w px rb db pv tv x pl) : ∀ k, momOwn px rb db pv tv k → B ≤ k := by
  rintro k (rfl | rfl | rfl | hk | hk)
  · exact h.bpx
  · exact h.brb
  · exact h.bdb
  · exact owns_ge h.puts hk
  · exact owns_ge h.told hk

theorem Mom.base_le {B : Nat} {w : World} {px rb db : Nat} {pv tv : Value} {x : Mo} {pl : List (Int × Int)} (h : Mom B w px rb db pv tv x pl) : B ≤ w.heap.size := by
  have := blk_lt h.blk; have := h.bpx; omega

/-- a Moment of a run that has not begun -/
theorem mom_new {B : Nat} {W : World} {px rb db : Nat} (h1 : B ≤ px) (h2 : B ≤ rb) (h3 : B ≤ db)
    (hp : W.heap[px]? = some (.cells #[.int .i64 0, .int .i64 0, .slice (some ⟨rb, 0, none⟩) 4 4, .slice none 0 0, .slice (some ⟨db, 0, none⟩) 16 16, .slice none 0 0, .int .i64 0] 152 (0, 0)))
    (hr : W.heap[rb]? = some (.cells #[.int .i64 0, .int .i64 0, .int .i64 0, .int .i64 0] 3 (0, 0)))
    (hd : W.heap[db]? = some (.cells #[.bool false, .bool false, .bool false, .bool false, .bool false, .bool false, .bool false, .bool false, .bool false, .bool false, .bool false, .bool false, .bool false, .bool false, .bool false, .bool false] 4 (0, 0))) :
    Mom B W px rb db (.slice none 0 0) (.slice none 0 0) mo0 [] :=
  { bpx := h1, brb := h2, bdb := h3
    blk := by simpa [momCells, mo0] using hp
    regs := by simpa [iv, mo0] using hr
    rlen := rfl
    read := by simpa [bv, mo0] using hd
    dlen := rfl
    puts := World.ownsRow_nil _ _ _ _
    told := World.ownsRow_nil _ _ _ _
    apart := by simp [Value.ownBlock]
    last := fun _ => rfl }

theorem heap3_0 (w : World) (a b c : Obj) : (((w.alloc a).alloc b).alloc c).drew.heap[w.heap.size]? = some a := by
  show (((w.alloc a).alloc b).alloc c).heap[w.heap.size]? = some a
  rw [Below.heap_alloc _ _ _ (by simp; omega), Below.heap_alloc _ _ _ (by simp)]
  exact heap_alloc_new w a
theorem heap3_1 (w : World) (a b c : Obj) : (((w.alloc a).alloc b).alloc c).drew.heap[w.heap.size + 1]? = some b := by
  show (((w.alloc a).alloc b).alloc c).heap[w.heap.size + 1]? = some b
  rw [Below.heap_alloc _ _ _ (by simp)]
  have := heap_alloc_new (w.alloc a) b
  rwa [World.size_alloc] at this
theorem heap3_2 (w : World) (a b c : Obj) : (((w.alloc a).alloc b).alloc c).drew.heap[w.heap.size + 1 + 1]? = some c := by
  have := heap_alloc_new ((w.alloc a).alloc b) c
  rw [World.size_alloc, World.size_alloc] at this
  exact this
theorem below3 (w : World) (a b c : Obj) : Below w.heap.size w (((w.alloc a).alloc b).alloc c).drew :=
  ((((Below.refl _ _).alloc (Nat.le_refl _) a).alloc (by simp) b).alloc (by simp; omega) c).drew

/-- what 'Play' hands back -/
def Played (l : List St) (ml : List (Int × Int)) (n : Nat) (w : World) (e : Ending) (w' : World) : Prop := ∃ px rb db pv tv pl, e = .returned (.pointer (some ⟨px, 0, none⟩)) ∧
  Mom w.heap.size w' px rb db pv tv (play l (vIn ml) n mo0) pl ∧ pl.length ≤ n ∧ Below w.heap.size w w'

/-- what holds at each round of 'Play' -/
def PlayRel (l : List St) (ml : List (Int × Int)) (n : Nat) (w : World) (px : Nat) (gk : Nat) (wr : World) : Prop :=
  ∃ rb db pv tv x pl, Mom w.heap.size wr px rb db pv tv x pl ∧ MoOk l.length x ∧ x.done + gk = n ∧ pl.length ≤ x.done ∧ play l (vIn ml) gk x = play l (vIn ml) n mo0 ∧ Below w.heap.size w wr

set_option maxRecDepth 100000 in
set_option maxHeartbeats 2000000 in
theorem play_at (ao : Option Addr) (cap : Nat) (l : List St) (mv : Value) (ml : List (Int × Int)) (n : Nat) (w : World) (hj : jobB l = true) (hs : l = [] ∨ ∃ b off, ao = some ⟨b, off, none⟩ ∧ b < w.heap.size ∧ StepsAt w b off l) (hm : PairsV w w.heap.size mv ml) (hml : ∀ k, vIn ml k ≤ 9999) (hn : n ≤ 200) :
    Calls Try.prog 81 #[.slice ao l.length cap, mv, .int .i64 n] w fun e w' => Played l ml n w e w' := by
  have HJ : Hid (jobB l = true) := hj
  have HS : Hid (l = [] ∨ ∃ b off, ao = some ⟨b, off, none⟩ ∧ b < w.heap.size ∧ StepsAt w b off l) := hs
  have HM : Hid (PairsV w w.heap.size mv ml) := hm
  have HL : Hid (∀ k, vIn ml k ≤ 9999) := hml
  have hlen := (jobB_at hj).1
  obtain ⟨ln, hln⟩ : ∃ ln, ln = l.length := ⟨_, rfl⟩
  have HN : Hid (ln = l.length) := hln
  rw [← hln] at hlen ⊢
  clear hj hs hm hml hln
  have hmk : ∀ w, (Instr.makeSlice 37 (.int .i64 4) (.int .i64 4)).run Try.prog w = .ok (.slice (some ⟨w.heap.size, 0, none⟩) 4 4) (w.alloc (.cells #[.int .i64 0, .int .i64 0, .int .i64 0, .int .i64 0] 3)) := fun _ => by kernel_rfl
  have hmb : ∀ w, (Instr.makeSlice 150 (.int .i64 16) (.int .i64 16)).run Try.prog w = .ok (.slice (some ⟨w.heap.size, 0, none⟩) 16 16) (w.alloc (.cells #[.bool false, .bool false, .bool false, .bool false, .bool false, .bool false, .bool false, .bool false, .bool false, .bool false, .bool false, .bool false, .bool false, .bool false, .bool false, .bool false] 4)) := fun _ => by kernel_rfl
  go_enter Try.func81, Try.ntmps81
  go_wp2
  go_region
  all_goals
    go_wp2
    go_loopg [12] n (fun gk _ wr => PlayRel l ml n w (w.heap.size + 1 + 1) gk wr)
    case atStart =>
      first
        | exact ⟨w.heap.size, w.heap.size + 1, _, _, mo0, [], mom_new (by omega) (by omega) (by omega) (heap3_2 _ _ _ _) (heap3_0 _ _ _ _) (heap3_1 _ _ _ _), mo0_ok _, by simp [mo0], by simp, rfl, below3 _ _ _ _⟩
        | exact ⟨w.heap.size + 1, w.heap.size, _, _, mo0, [], mom_new (by omega) (by omega) (by omega) (heap3_2 _ _ _ _) (heap3_1 _ _ _ _) (heap3_0 _ _ _ _), mo0_ok _, by simp [mo0], by simp, rfl, below3 _ _ _ _⟩
    case round =>
      obtain ⟨rb, db, pv, tv, x, pl, hM, hok, hdone, hpl, hplay, hbel⟩ := hrel
      have c0 := hM.cPc
      have c1 := hM.cDone
      have c6 := hM.cFin
      have hfinish : Hid ((¬ (x.fin = 0 ∧ x.pc < l.length)) ∨ gk = 0 → Played l ml n w (.returned (.pointer (some ⟨w.heap.size + 1 + 1, 0, none⟩))) wr) := fun hq => by
        have e : play l (vIn ml) gk x = x := by
          rcases hq with hq | hq
          · exact play_end hq
          · subst hq; rfl
        exact ⟨_, rb, db, pv, tv, pl, rfl, hM.congr (e.symm.trans hplay), by omega, hbel⟩
      have HMom : Hid (Mom w.heap.size wr (w.heap.size + 1 + 1) rb db pv tv x pl) := hM
      have HOK : Hid (MoOk l.length x) := hok
      have HPL : Hid (play l (vIn ml) gk x = play l (vIn ml) n mo0) := hplay
      have HB : Hid (Below w.heap.size w wr) := hbel
      have hpcl := hok.pc
      rw [← HN.out] at hpcl
      clear hM hok hplay hbel
      by_cases hz : gk = 0
      · have hnd : ¬ ((x.done : Int) < (n : Int)) := by omega
        go_wp2
        go_ret
        exact hfinish.out (Or.inr hz)
      · have hnd : ((x.done : Int) < (n : Int)) := by omega
        by_cases hfin : x.fin = 0
        · by_cases hpc : x.pc < ln
          · have hpc' : x.pc < l.length := by rw [← HN.out]; exact hpc
            have hao : ∃ b off, ao = some ⟨b, off, none⟩ ∧ b < w.heap.size ∧ StepsAt w b off l := by
              rcases HS.out with h | h
              · subst h; simp at hpc'
              · exact h
            clear HS
            obtain ⟨b, off, rfl, hb, hst⟩ := hao
            obtain ⟨s0, s1, s2, s3⟩ := (hst.below HB.out hb) x.pc hpc'
            clear hst
            obtain ⟨s, hs'⟩ : ∃ s, s = l.getD x.pc stz := ⟨_, rfl⟩
            rw [← hs'] at s0 s1 s2 s3
            have HSt : Hid (s = l.getD x.pc stz) := hs'
            clear hs'
            have hstB : Hid (stB s x.pc l.length = true) := by rw [HSt.out]; exact (jobB_at HJ.out).2 _ hpc'
            have hlen' : Hid (l.length ≤ 32) := (jobB_at HJ.out).1
            have m1 : (0 : Int) ≤ (x.pc : Int) := by omega
            have m2 : (x.pc : Int) < (ln : Int) := by omega
            have hd1 : x.done ≤ 1000 := by omega
            go_wp2_with (go_at_call 106; refine (does_any w.heap.size _ (w.heap.size + 1 + 1) rb db pv tv x pl s _ ml l.length hlen'.out HOK.out hpc' hstB.out (HM.out.below HB.out (Nat.le_refl _)) HL.out hd1 hpl HMom.out).mono ?_; rintro e W2 ⟨rfl, pv', tv', pl', hM2, hpl2, hF2⟩)
            obtain ⟨g', rfl⟩ : ∃ g', gk = g' + 1 := ⟨gk - 1, by omega⟩
            go_roundg g'
            case measure => omega
            case rel =>
              refine ⟨rb, db, pv', tv', _, pl', hM2, ?_, ?_, ?_, ?_, HB.out.trans (hF2.below HMom.out.own_ge HMom.out.base_le)⟩
              · exact stp_ok HOK.out hpc' HL.out hstB.out
              · rw [stp_done]; omega
              · rw [stp_done]; omega
              · rw [← HPL.out, play_go ⟨hfin, hpc'⟩, HSt.out]
          · have m2 : ¬ ((x.pc : Int) < (ln : Int)) := by omega
            go_wp2
            go_ret
            exact hfinish.out (Or.inl (fun h => hpc (by rw [HN.out]; exact h.2)))
        · go_wp2
          go_ret
          exact hfinish.out (Or.inl (fun h => hfin h.1))

theorem play_any (v : Value) (l : List St) (mv : Value) (ml : List (Int × Int)) (n : Nat) (w : World) (hj : jobB l = true) (hs : StepsV w v l) (hm : PairsV w w.heap.size mv ml) (hml : ∀ k, vIn ml k ≤ 9999) (hn : n ≤ 200) :
    Calls Try.prog 81 #[v, mv, .int .i64 n] w fun e w' => Played l ml n w e w' := by
  obtain ⟨ao, cap, rfl, h⟩ := hs
  exact play_at ao cap l mv ml n w hj h hm hml hn

end Go.Proofs.Ytlbmcdoldnajoaa
