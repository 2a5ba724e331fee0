import Derived.Test.YtlbmcdoldnajoaaGreatRefF
namespace Go.Proofs.YtlbmcdoldnajoaaGreat
open Go.RowKit
def KeysOK (x : Mo) : Prop := ∀ k v, x.puts k = some v → 0 ≤ k ∧ k ≤ 15
theorem keys_ite {p : Prop} [Decidable p] {a b : Mo} (ha : KeysOK a) (hb : KeysOK b) : KeysOK (if p then a else b) := by split <;> assumption
theorem keys_putAt {x : Mo} (h : KeysOK x) {k v : Int} (h0 : 0 ≤ k) (h1 : k ≤ 15) : KeysOK (putAt x k v) := fun j u hu => by
  unfold putAt at hu
  simp only at hu
  by_cases e : k = j
  · subst e; exact ⟨h0, h1⟩
  · rw [if_neg e] at hu; exact h j u hu
theorem keys_like {x y : Mo} (h : KeysOK x) (e : y.puts = x.puts) : KeysOK y := fun k v hk => h k v (by rw [← e]; exact hk)
theorem keys_stp {s : St} {m : Int → Int} {x : Mo} {i n : Nat} (h : KeysOK x) (hs : stB s i n = true) : KeysOK (stp s m x) := by
  have hb : ∀ y : Mo, y.puts = x.puts → KeysOK y := fun y e => keys_like h e
  by_cases e3 : s.op = 3
  · have hk : 0 ≤ s.a ∧ s.a ≤ 15 := by
      unfold stB stepB at hs
      rw [e3] at hs
      simp [keyB] at hs
      omega
    have : stp s m x = putAt { x with done := x.done + 1, pc := x.pc + 1 } s.a (reg { x with done := x.done + 1, pc := x.pc + 1 } s.b) := by simp [stp, e3]
    rw [this]
    exact keys_putAt (hb _ rfl) hk.1 hk.2
  · by_cases e4 : s.op = 4
    · have hk : 0 ≤ s.a ∧ s.a ≤ 15 := by
        unfold stB stepB at hs
        rw [e4] at hs
        simp [keyB] at hs
        omega
      have : stp s m x = putAt { x with done := x.done + 1, pc := x.pc + 1 } s.a (-1) := by simp [stp, e4]
      rw [this]
      exact keys_putAt (hb _ rfl) hk.1 hk.2
    · unfold stp
      simp only
      rw [if_neg e3, if_neg e4]
      refine keys_ite (hb _ rfl) (keys_ite (hb _ rfl) (keys_ite (hb _ (becE_puts _ _ _)) (keys_ite (hb _ (becE_puts _ _ _)) (keys_ite (hb _ (becE_puts _ _ _)) (keys_ite (hb _ (becE_puts _ _ _)) (keys_ite (keys_ite (hb _ rfl) (hb _ rfl)) (keys_ite (keys_ite (hb _ rfl) (hb _ rfl)) (keys_ite (hb _ rfl) (keys_ite (hb _ rfl) (hb _ rfl))))))))))
theorem keys_play {l : List St} {m : Int → Int} (hj : jobB l = true) : ∀ (n : Nat) (x : Mo), KeysOK x → KeysOK (play l m n x)
  | 0, _, h => h
  | n + 1, x, h => by
    unfold play
    split
    · rename_i hc
      exact keys_play hj n _ (keys_stp h ((jobB_at hj).2 _ hc.2))
    · exact h
theorem lastP_some (pl : List (Int × Int)) {j : Nat} (hj : j < pl.length) : ∀ n, j < n → n ≤ pl.length → ∃ v, lastP (pl.take n) pl[j].1 = some v
  | 0, h, _ => absurd h (Nat.not_lt_zero _)
  | n + 1, h, hn => by
    rw [List.take_succ_eq_append_getElem (show n < pl.length by omega), lastP_snoc]
    by_cases e : (pl[n]'(by omega)).1 = pl[j].1
    · exact ⟨_, if_pos e⟩
    · rw [if_neg e]
      have hne : j ≠ n := fun e2 => by subst e2; exact e rfl
      exact lastP_some pl hj n (by omega) (by omega)
theorem keys_list {x : Mo} {pl : List (Int × Int)} (h : KeysOK x) (hl : ∀ k, lastP pl k = x.puts k) {j : Nat} (hj : j < pl.length) : 0 ≤ (pl.getD j pz).1 ∧ (pl.getD j pz).1 ≤ 15 := by
  have e : pl.getD j pz = pl[j] := by simp [List.getD, hj]
  rw [e]
  obtain ⟨v, hv⟩ := lastP_some pl hj pl.length hj (Nat.le_refl _)
  rw [List.take_length] at hv
  exact h _ v ((hl _).symm.trans hv)
def wrN (pl : List (Int × Int)) (j : Nat) : List Bool := (List.range 16).map fun k : Nat => (lastP (pl.take j) k).isSome
theorem wrN_len (pl : List (Int × Int)) (j : Nat) : (wrN pl j).length = 16 := by simp [wrN]
theorem wrN_zero (pl : List (Int × Int)) : wrN pl 0 = List.replicate 16 false := by rfl
theorem wrN_succ {pl : List (Int × Int)} {j : Nat} (hj : j < pl.length) {q : Nat} (hq : (pl.getD j pz).1 = q) : wrN pl (j + 1) = (wrN pl j).set q true := by
  have e : pl.getD j pz = pl[j] := by simp [List.getD, hj]
  rw [e] at hq
  unfold wrN
  apply List.ext_getElem
  · simp
  · intro i h1 h2
    simp only [List.getElem_map, List.getElem_range, List.getElem_set]
    rw [List.take_succ_eq_append_getElem hj, lastP_snoc, hq]
    by_cases e2 : q = i
    · subst e2; simp
    · rw [if_neg (by omega), if_neg e2]
theorem wrN_all {pl : List (Int × Int)} {p : Int → Option Int} (h : ∀ k, lastP pl k = p k) : wrN pl pl.length = DeskM.wroteL p := by
  unfold wrN DeskM.wroteL
  rw [List.take_length]
  exact List.map_congr_left (fun k _ => by rw [h])
theorem goodCells_snoc {gs : List GoodM} {vs : List GV} (h : vs.length = gs.length) (t : GoodM) (g : GV) : goodCells (gs ++ [t]) (vs ++ [g]) = goodCells gs vs ++ goodC t g := by
  unfold goodCells
  rw [List.zipWith_append h.symm, List.flatten_append]
  simp
theorem RD.pushG {F : Nat → Prop} {w w1 : World} {rb : Nat} {d : DeskM} {v : RV} (h : RD F w rb d v) (hF : ∀ k, w.heap.size ≤ k → F k) {g cap : Nat} {t : GoodM} {x : GV}
    (hown : w1.ownsRow 0 156 5 (.slice (some ⟨g, 0, none⟩) (d.goods.length + 1) cap) (d.goods.length + 1) (goodCells d.goods v.gs ++ goodC t x))
    (hf : Fr (fun k => v.gv.ownBlock = some k) w w1) (hat : v.gv.ownBlock = some g ∨ w.heap.size ≤ g)
    (hr : w.ownsRow 0 4 1 x.rv 16 (t.read.map Value.bool)) (hw : w.ownsRow 0 4 1 x.wv 16 ((DeskM.wroteL t.puts).map Value.bool)) (hp : w.ownsRow 0 58 2 x.pv x.pl.length (prCells x.pl)) (hl : x.pl.length ≤ 1000) (hlast : lastP x.pl = t.puts)
    (hxF : ∀ k, (x.rv.ownBlock = some k ∨ x.wv.ownBlock = some k ∨ x.pv.ownBlock = some k) → F k) :
    RD F (w1.setCell ⟨rb, 8, none⟩ (.slice (some ⟨g, 0, none⟩) (d.goods.length + 1) cap)) rb { d with goods := d.goods ++ [t] } { v with gv := .slice (some ⟨g, 0, none⟩) (d.goods.length + 1) cap, gs := v.gs ++ [x] } ∧ Fr F w (w1.setCell ⟨rb, 8, none⟩ (.slice (some ⟨g, 0, none⟩) (d.goods.length + 1) cap)) := by
  have hrb : ¬ v.gv.ownBlock = some rb := owns_ne h.goods h.blk (by decide)
  have hb1 := hf.blk h.blk hrb
  have hgF : ∀ k, (Value.slice (some ⟨g, 0, none⟩) (d.goods.length + 1) cap).ownBlock = some k → F k := fun k hk => by
    injection hk with hk
    have hk : g = k := hk
    subst hk
    rcases hat with hat | hat
    · exact h.gF _ hat
    · exact hF _ hat
  have hty : ∀ {e : TypeId} {s : Nat} {u : Value} {n : Nat} {xs : List Value}, w.ownsRow 0 e s u n xs → e ≠ 156 → ∀ k, u.ownBlock = some k → ¬ v.gv.ownBlock = some k := fun hu he k hk hq => own_types hu h.goods he hk hq
  have hbt : ∀ {b : Nat} {c : Array Value} {t : TypeId}, w.heap[b]? = some (.cells c t (0, 0)) → t ≠ 156 → ¬ v.gv.ownBlock = some b := fun hb ht hq => owns_ne h.goods hb (fun e => ht e.symm) hq
  refine ⟨?_, (hf.mono (T := F) (fun k _ hk => h.gF k hk)).setCell (p := ⟨rb, 8, none⟩) (fun _ => h.inF) _⟩
  exact { inF := h.inF
          blk := by rw [blk_set hb1]; rfl
          jobs := h.keepRow hf hrb h.jobs (hty h.jobs (by decide)) (by decide) _ _
          jF := h.jF
          queue := h.keepRow hf hrb h.queue (hty h.queue (by decide)) (by decide) _ _
          qF := h.qF
          urg := h.keepRow hf hrb h.urg (hty h.urg (by decide)) (by decide) _ _
          uF := h.uF
          qu := h.qu
          work := h.keepRow hf hrb h.work (hty h.work (by decide)) (by decide) _ _
          wF := h.wF
          goods := by
            show World.ownsRow _ 0 _ 5 _ (d.goods ++ [t]).length (goodCells (d.goods ++ [t]) (v.gs ++ [x]))
            rw [goodCells_snoc h.gl, List.length_append]
            exact owns_set hown (owns_ne hown hb1 (by decide)) _ _
          gF := hgF
          jb := fun i hi => ⟨(h.jb i hi).1, h.keepBlk hf (h.jb i hi).2 (hbt (h.jb i hi).2 (by decide)) (by decide) _ _⟩
          nd := h.nd
          st := fun i hi => ⟨h.keepRow hf hrb (h.st i hi).1 (hty (h.st i hi).1 (by decide)) (by decide) _ _, (h.st i hi).2⟩
          told := fun i hi => ⟨h.keepRow hf hrb (h.told i hi).1 (hty (h.told i hi).1 (by decide)) (by decide) _ _, (h.told i hi).2⟩
          sl := h.sl
          tl := h.tl
          gl := by simp [h.gl]
          gb := fun i hi => by
            have hi : i < (d.goods ++ [t]).length := hi
            show World.ownsRow _ 0 _ 1 ((v.gs ++ [x]).getD i gv0).rv 16 (((d.goods ++ [t]).getD i good0).read.map Value.bool) ∧ World.ownsRow _ 0 _ 1 ((v.gs ++ [x]).getD i gv0).wv 16 ((DeskM.wroteL ((d.goods ++ [t]).getD i good0).puts).map Value.bool) ∧ World.ownsRow _ 0 _ 2 ((v.gs ++ [x]).getD i gv0).pv ((v.gs ++ [x]).getD i gv0).pl.length (prCells ((v.gs ++ [x]).getD i gv0).pl) ∧ ((v.gs ++ [x]).getD i gv0).pl.length ≤ 1000 ∧ lastP ((v.gs ++ [x]).getD i gv0).pl = ((d.goods ++ [t]).getD i good0).puts ∧ ∀ k, (((v.gs ++ [x]).getD i gv0).rv.ownBlock = some k ∨ ((v.gs ++ [x]).getD i gv0).wv.ownBlock = some k ∨ ((v.gs ++ [x]).getD i gv0).pv.ownBlock = some k) → F k
            by_cases hlt : i < d.goods.length
            · have e1 : (d.goods ++ [t]).getD i good0 = d.goods.getD i good0 := by simp [List.getD, List.getElem?_append_left hlt]
              have e2 : (v.gs ++ [x]).getD i gv0 = v.gs.getD i gv0 := by simp [List.getD, List.getElem?_append_left (show i < v.gs.length by rw [h.gl]; exact hlt)]
              rw [e1, e2]
              obtain ⟨h1, h2, h3, h4, h5, h6⟩ := h.gb i hlt
              exact ⟨h.keepRow hf hrb h1 (hty h1 (by decide)) (by decide) _ _, h.keepRow hf hrb h2 (hty h2 (by decide)) (by decide) _ _, h.keepRow hf hrb h3 (hty h3 (by decide)) (by decide) _ _, h4, h5, h6⟩
            · have hi2 : i = d.goods.length := by rw [List.length_append] at hi; simp at hi; omega
              have e1 : (d.goods ++ [t]).getD i good0 = t := by rw [hi2]; simp [List.getD]
              have e2 : (v.gs ++ [x]).getD i gv0 = x := by rw [hi2, ← h.gl]; simp [List.getD]
              rw [e1, e2]
              exact ⟨h.keepRow hf hrb hr (hty hr (by decide)) (by decide) _ _, h.keepRow hf hrb hw (hty hw (by decide)) (by decide) _ _, h.keepRow hf hrb hp (hty hp (by decide)) (by decide) _ _, hl, hlast, hxF⟩ }
theorem RD.jobTold {F : Nat → Prop} {w : World} {rb : Nat} {d : DeskM} {v : RV} (h : RD F w rb d v) {i : Nat} (hi : i < d.jobs.length) {x : Value} {tl : List Int} (hx : w.ownsRow 0 3 1 x tl.length (tl.map (Value.int .i64))) (hxF : ∀ k, x.ownBlock = some k → F k ∧ v.qv.ownBlock ≠ some k ∧ v.uv.ownBlock ≠ some k) :
    RD F (w.setCell ⟨v.js.getD i 0, 2, none⟩ x) rb { d with jobs := d.jobs.set i { d.jobs.getD i jobM0 with told := tl } } { v with tv := v.tv.set i x } ∧ Fr F w (w.setCell ⟨v.js.getD i 0, 2, none⟩ x) := by
  obtain ⟨hjF, hjb⟩ := h.jb i hi
  obtain ⟨j', hj'⟩ : ∃ j', j' = ({ d.jobs.getD i jobM0 with told := tl } : JobM) := ⟨_, rfl⟩
  have hs : j'.steps = (d.jobs.getD i jobM0).steps := by rw [hj']
  have ht : j'.told = tl := by rw [hj']
  have he : (jobC (d.jobs.getD i jobM0) (v.sv.getD i nilV) (v.tv.getD i nilV)).setIfInBounds 2 x = jobC j' (v.sv.getD i nilV) x := by rw [hj']; rfl
  rw [← hj']
  have v1 : (v.tv.set i x).getD i nilV = x := by simp [List.getD, show i < v.tv.length by rw [h.tl]; exact hi]
  have v2 : ∀ k, k ≠ i → (v.tv.set i x).getD k nilV = v.tv.getD k nilV := fun k hk => by simp [List.getD, List.getElem?_set_ne (Ne.symm hk)]
  have hrow : ∀ {e : TypeId} {s : Nat} {u : Value} {n : Nat} {xs : List Value}, w.ownsRow 0 e s u n xs → e ≠ 133 → (w.setCell ⟨v.js.getD i 0, 2, none⟩ x).ownsRow 0 e s u n xs := fun hu he => owns_set hu (owns_ne hu hjb he) _ _
  have hlen : (d.jobs.set i j').length = d.jobs.length := List.length_set ..
  have g1 : (d.jobs.set i j').getD i jobM0 = j' := by simp [List.getD, hi]
  have g2 : ∀ k, k ≠ i → (d.jobs.set i j').getD k jobM0 = d.jobs.getD k jobM0 := fun k hk => by simp [List.getD, List.getElem?_set_ne (Ne.symm hk)]
  refine ⟨?_, (Fr.refl F w).setCell (p := ⟨v.js.getD i 0, 2, none⟩) (fun _ => hjF) _⟩
  exact { inF := h.inF
          blk := (blk_other (blk_ne h.blk hjb (by decide)) _ _).trans h.blk
          jobs := by rw [hlen]; exact hrow h.jobs (by decide)
          jF := h.jF
          queue := hrow h.queue (by decide)
          qF := h.qF
          urg := hrow h.urg (by decide)
          uF := h.uF
          qu := h.qu
          work := hrow h.work (by decide)
          wF := h.wF
          goods := hrow h.goods (by decide)
          gF := h.gF
          jb := fun k hk => by
            rw [hlen] at hk
            refine ⟨(h.jb k hk).1, ?_⟩
            by_cases e : k = i
            · subst e
              show _ = some (Obj.cells (jobC ((d.jobs.set k j').getD k jobM0) _ ((v.tv.set k x).getD k nilV)) _ _)
              rw [g1, v1, blk_set hjb, he]
            · show _ = some (Obj.cells (jobC ((d.jobs.set i j').getD k jobM0) _ ((v.tv.set i x).getD k nilV)) _ _)
              rw [g2 k e, v2 k e]
              exact (blk_other (fun hb => e (h.nd k i hk hi hb)) _ _).trans (h.jb k hk).2
          nd := fun a b ha hb => by rw [hlen] at ha hb; exact h.nd a b ha hb
          st := fun k hk => by
            rw [hlen] at hk
            have hq : ((d.jobs.set i j').getD k jobM0).steps = (d.jobs.getD k jobM0).steps := by
              by_cases e : k = i
              · subst e; rw [g1, hs]
              · rw [g2 k e]
            simp only [hq]
            exact ⟨hrow (h.st k hk).1 (by decide), (h.st k hk).2⟩
          told := fun k hk => by
            rw [hlen] at hk
            show World.ownsRow _ 0 _ 1 ((v.tv.set i x).getD k nilV) ((d.jobs.set i j').getD k jobM0).told.length (((d.jobs.set i j').getD k jobM0).told.map (Value.int .i64)) ∧ ∀ q, ((v.tv.set i x).getD k nilV).ownBlock = some q → F q ∧ v.qv.ownBlock ≠ some q ∧ v.uv.ownBlock ≠ some q
            by_cases e : k = i
            · subst e
              rw [g1, v1, ht]
              exact ⟨hrow hx (by decide), hxF⟩
            · rw [g2 k e, v2 k e]
              exact ⟨hrow (h.told k hk).1 (by decide), (h.told k hk).2⟩
          sl := by rw [h.sl, hlen]
          tl := by show (v.tv.set i x).length = _; rw [List.length_set, h.tl, hlen]
          gl := h.gl
          gb := fun k hk => by
            obtain ⟨h1, h2, h3, h4, h5, h6⟩ := h.gb k hk
            exact ⟨hrow h1 (by decide), hrow h2 (by decide), hrow h3 (by decide), h4, h5, h6⟩ }
theorem name_then {Q : Exit → Act → World → Prop} {e : Exit} {a : Act} {W : World} {p : World → Prop} (h : p W) (k : ∀ W', p W' → Q e a W') : Q e a W := k W h
theorem Tryz.infoBool : (Tryz.prog.info? 4).map (fun i => (i.zero, i.size, i.bytes)) = some (some (.bool false), 1, 1) := by kernel_rfl
theorem made_bools : madeCells #[Value.bool false] 16 = bv (List.replicate 16 false) := by kernel_rfl
structure LookX (w X : World) (tb wb ab tk bg dn db : Nat) (pv : Value) (ws : List Bool) : Prop where
  bel : Below w.heap.size w X
  ht : w.heap.size + 2 ≤ tb
  hw : w.heap.size + 2 ≤ wb
  ne : tb ≠ wb
  hab : ab = w.heap.size + 1
  tB : X.heap[tb]? = some (.cells #[.int .i64 (tk : Int), .int .i64 (bg : Int), .slice (some ⟨db, 0, none⟩) 16 16, .slice (some ⟨wb, 0, none⟩) 16 16, pv] 156 (0, 0))
  wB : X.heap[wb]? = some (.cells (bv ws) 4 (0, 0))
  aB : X.heap[ab]? = some (.cells #[.int .i64 (tk : Int), .int .i64 (bg : Int), .int .i64 (dn : Int)] 136 (0, 0))
  nB : X.heap[w.heap.size]? = some (.cells #[.int .i64 0, .int .i64 0, .int .i64 0] 122 (0, 0))
theorem LookX.drew {w X : World} {tb wb ab tk bg dn db : Nat} {pv : Value} {ws : List Bool} (h : LookX w X tb wb ab tk bg dn db pv ws) : LookX w X.drew tb wb ab tk bg dn db pv ws := ⟨h.bel.drew, h.ht, h.hw, h.ne, h.hab, h.tB, h.wB, h.aB, h.nB⟩
theorem LookX.mark {w X : World} {tb wb ab tk bg dn db : Nat} {pv : Value} {ws : List Bool} (h : LookX w X tb wb ab tk bg dn db pv ws) (q : Nat) : LookX w (X.setCell ⟨wb, q, none⟩ (.bool true)) tb wb ab tk bg dn db pv (ws.set q true) :=
  ⟨h.bel.setCell (p := ⟨wb, q, none⟩) (by have := h.hw; show _ ≤ wb; omega) _, h.ht, h.hw, h.ne, h.hab, (blk_other h.ne q _).trans h.tB, by rw [blk_set h.wB, bv_set], (blk_other (by have := h.hw; have := h.hab; omega) q _).trans h.aB, (blk_other (by have := h.hw; omega) q _).trans h.nB⟩
theorem LookX.puts {w X : World} {tb wb ab tk bg dn db : Nat} {pv : Value} {ws : List Bool} (h : LookX w X tb wb ab tk bg dn db pv ws) (u : Value) : LookX w (X.setCell ⟨tb, 4, none⟩ u) tb wb ab tk bg dn db u ws :=
  ⟨h.bel.setCell (p := ⟨tb, 4, none⟩) (by have := h.ht; show _ ≤ tb; omega) _, h.ht, h.hw, h.ne, h.hab, blk_set h.tB 4 u, (blk_other (Ne.symm h.ne) 4 _).trans h.wB, (blk_other (by have := h.ht; have := h.hab; omega) 4 _).trans h.aB, (blk_other (by have := h.ht; omega) 4 _).trans h.nB⟩
structure LookY (F : Nat → Prop) (w X : World) (rb px : Nat) (mc : Array Value) (tb wb ab tk bg dn db : Nat) (pv tv : Value) (ws : List Bool) (pl : List (Int × Int)) (x : Mo) (d : DeskM) (v : RV) : Prop where
  rd : RD (fun k => F k ∧ k ≠ w.heap.size) X rb d v
  fr : Fr F w X
  ht : w.heap.size + 2 ≤ tb
  hw : w.heap.size + 2 ≤ wb
  tB : X.heap[tb]? = some (.cells #[.int .i64 (tk : Int), .int .i64 (bg : Int), .slice (some ⟨db, 0, none⟩) 16 16, .slice (some ⟨wb, 0, none⟩) 16 16, pv] 156 (0, 0))
  wB : X.heap[wb]? = some (.cells (bv ws) 4 (0, 0))
  aB : X.heap[ab]? = some (.cells #[.int .i64 (tk : Int), .int .i64 (bg : Int), .int .i64 (dn : Int)] 136 (0, 0))
  nB : X.heap[w.heap.size]? = some (.cells #[.int .i64 0, .int .i64 0, .int .i64 0] 122 (0, 0))
  dB : X.heap[db]? = some (.cells (bv x.read) 4 (0, 0))
  pR : X.ownsRow 0 58 2 pv pl.length (prCells pl)
  tR : X.ownsRow 0 3 1 tv x.told.length (x.told.map (Value.int .i64))
  mB : X.heap[px]? = some (.cells mc 116 (0, 0))
theorem LookX.idle {F : Nat → Prop} {B : Nat} {w X : World} {rb px rr tb wb ab tk bg dn db : Nat} {pv tv pvm : Value} {ws : List Bool} {pl plm : List (Int × Int)} {x : Mo} {d : DeskM} {v : RV} (h : LookX w X tb wb ab tk bg dn db pv ws) (r : RD F w rb d v) (m : Mom B w px rr db pvm tv x plm) (hpR : w.ownsRow 0 58 2 pv pl.length (prCells pl)) {i wg cap : Nat} (hi : i < d.workers.length) (hwv : v.wv = .slice (some ⟨wg, 0, none⟩) d.workers.length cap) :
    LookY F w (((X.setCell ⟨wg, i * 3, none⟩ (.int .i64 0)).setCell ⟨wg, i * 3 + 1, none⟩ (.int .i64 0)).setCell ⟨wg, i * 3 + 2, none⟩ (.int .i64 0)) rb px (momCells x rr db pvm tv) tb wb ab tk bg dn db pv tv ws pl x { d with workers := d.workers.set i att0 } v := by
  have r1 : RD (fun k => F k ∧ k ≠ w.heap.size) X rb d v := (r.mono (fun k hk e => ⟨e, by omega⟩)).below h.bel
  have hwgF : F wg ∧ wg ≠ w.heap.size := r1.wF wg (by rw [hwv]; rfl)
  have hww := r1.work
  rw [hwv] at hww
  obtain ⟨curw, hwb, _⟩ := owns_row hww
  have h0 := r.work
  rw [hwv] at h0
  obtain ⟨cur0, hb0, _⟩ := owns_row h0
  have hwlt : wg < w.heap.size := blk_lt hb0
  have fb : Fr (fun _ => False) w X := Fr.of_below h.bel
  have hown := (((hww.stored (i * 3) (.int .i64 0)).1.stored (i * 3 + 1) (.int .i64 0)).1.stored (i * 3 + 2) (.int .i64 0)).1
  have ee : (((attCells d.workers).set (i * 3) (.int .i64 0)).set (i * 3 + 1) (.int .i64 0)).set (i * 3 + 2) (.int .i64 0) = attCells (d.workers.set i att0) := attCells_set d.workers hi att0
  rw [ee, ← hwv] at hown
  have hwk : ∀ k, k = wg → v.wv.ownBlock = some k := fun k hk => by rw [hwv, hk]; rfl
  obtain ⟨b3, b4⟩ := r1.setW (ws := d.workers.set i att0) (by simp) hown ((((Fr.refl _ _).setCell (p := ⟨wg, _, none⟩) (fun _ => hwk wg rfl) _).setCell (p := ⟨wg, _, none⟩) (fun _ => hwk wg rfl) _).setCell (p := ⟨wg, _, none⟩) (fun _ => hwk wg rfl) _)
  have fw : Fr (fun k => k = wg) X (((X.setCell ⟨wg, i * 3, none⟩ (.int .i64 0)).setCell ⟨wg, i * 3 + 1, none⟩ (.int .i64 0)).setCell ⟨wg, i * 3 + 2, none⟩ (.int .i64 0)) := (((Fr.refl (fun k => k = wg) X).setCell (p := ⟨wg, i * 3, none⟩) (fun _ => rfl) _).setCell (p := ⟨wg, i * 3 + 1, none⟩) (fun _ => rfl) _).setCell (p := ⟨wg, i * 3 + 2, none⟩) (fun _ => rfl) _
  refine ⟨b3, (Fr.of_below h.bel).trans (b4.mono (fun _ _ h => h.1)) (fun _ _ h => h), h.ht, h.hw, fw.blk h.tB (by have := h.ht; omega), fw.blk h.wB (by have := h.hw; omega), fw.blk h.aB (by have := h.hab; omega), fw.blk h.nB (by omega), fw.blk ((h.bel.block _ (blk_lt m.read)).trans m.read) (fun e => ?_), owns_fr (owns_fr hpR fb (fun _ _ hs => hs)) fw (fun k hk e => ?_), owns_fr (owns_fr (owns_base m.told (Nat.zero_le _)) fb (fun _ _ hs => hs)) fw (fun k hk e => ?_), fw.blk ((h.bel.block _ (blk_lt m.blk)).trans m.blk) (fun e => ?_)⟩
  · exact blk_ne m.read hb0 (by decide) e
  · subst e; exact owns_ne hpR hb0 (by decide) hk
  · subst e; exact owns_ne (owns_base m.told (Nat.zero_le _)) hb0 (by decide) hk
  · exact blk_ne m.blk hb0 (by decide) e
theorem LookY.below {F : Nat → Prop} {w X X' : World} {rb px : Nat} {mc : Array Value} {tb wb ab tk bg dn db : Nat} {pv tv : Value} {ws : List Bool} {pl : List (Int × Int)} {x : Mo} {d : DeskM} {v : RV} (h : LookY F w X rb px mc tb wb ab tk bg dn db pv tv ws pl x d v) (hb : Below X.heap.size X X') : LookY F w X' rb px mc tb wb ab tk bg dn db pv tv ws pl x d v :=
  have fb : Fr (fun _ => False) X X' := Fr.of_below hb
  ⟨h.rd.below hb, h.fr.trans (Fr.of_below (S := F) hb) (fun _ _ h => h), h.ht, h.hw, fb.blk h.tB id, fb.blk h.wB id, fb.blk h.aB id, fb.blk h.nB id, fb.blk h.dB id, owns_fr h.pR fb (fun _ _ hs => hs), owns_fr h.tR fb (fun _ _ hs => hs), fb.blk h.mB id⟩
theorem bools_of_blk {X : World} {b : Nat} {l : List Bool} (h : X.heap[b]? = some (.cells (bv l) 4 (0, 0))) (hl : l.length = 16) : BoolsV X (.slice (some ⟨b, 0, none⟩) 16 16) l := ⟨by simp [hl], Or.inr ⟨b, 16, bv l, rfl, Nat.zero_le _, h, Nat.le_refl _, by decide, by simp [bv, hl], by rw [List.take_of_length_le (by simp [bv, hl])]; rfl⟩⟩
theorem Tryz.infoGood : (Tryz.prog.info? 156).map (fun i => (i.zero, i.size, i.bytes)) = some (some (.agg #[.int .i64 0, .int .i64 0, .slice none 0 0, .slice none 0 0, .slice none 0 0]), 5, 88) := by kernel_rfl
theorem elim_le {n : Nat} {l : List Nat} {p : Nat → Bool} (h : ∀ a ∈ l, a < n) : (l.find? p).elim 0 (· + 1) ≤ n := by
  cases hf : l.find? p with
  | none => exact Nat.zero_le _
  | some a => exact h a (List.mem_of_find?_eq_some hf)
theorem partner_le (d : DeskM) (t : GoodM) : d.partner t ≤ d.goods.length := by
  unfold DeskM.partner
  split
  · exact elim_le (fun a ha => by simpa using ha)
  · split
    · exact elim_le (fun a ha => by simpa using ha)
    · exact elim_le (fun a ha => by simpa using ha)
theorem prs_at {w : World} {base : Nat} {v : Value} {pl : List (Int × Int)} {e : TypeId} {pa : Option Addr} {pcap : Nat} (h : w.ownsRow base e 2 v pl.length (prCells pl)) (hv : v = .slice pa pl.length pcap) {j : Nat} (hj : j < pl.length) : ∃ g, pa = some ⟨g, 0, none⟩ ∧ g < w.heap.size ∧ w.cell? ⟨g, j * 2, none⟩ = some (.int .i64 (pl.getD j pz).1) := by
  obtain ⟨ao, cap, e1, h1⟩ := owns_pairs h
  rw [hv] at e1
  injection e1 with e2 e3 e4
  subst e2
  rcases h1 with ⟨h2, _⟩ | ⟨g, h2, _, h4, h5⟩
  · subst h2; exact absurd hj (Nat.not_lt_zero _)
  · refine ⟨g, h2, h4, ?_⟩
    have := (h5 j hj).1
    simpa using this
structure LookZ (F : Nat → Prop) (w X : World) (rb px : Nat) (mc : Array Value) (ab tk bg dn : Nat) (tv : Value) (x : Mo) (d : DeskM) (v : RV) : Prop where
  rd : RD (fun k => F k ∧ k ≠ w.heap.size) X rb d v
  fr : Fr F w X
  aB : X.heap[ab]? = some (.cells #[.int .i64 (tk : Int), .int .i64 (bg : Int), .int .i64 (dn : Int)] 136 (0, 0))
  nB : X.heap[w.heap.size]? = some (.cells #[.int .i64 0, .int .i64 0, .int .i64 0] 122 (0, 0))
  tR : X.ownsRow 0 3 1 tv x.told.length (x.told.map (Value.int .i64))
  mB : X.heap[px]? = some (.cells mc 116 (0, 0))
theorem step_goods {ops : Array Oper} {o : Oper} {a : Act} {K : Act → World → Prop} {Q : Exit → Act → World → Prop} {E : Prop} (s y : Operand) {F : Nat → Prop} {w X : World} {rb px : Nat} {mc : Array Value} {tb wb ab tk bg dn db : Nat} {pv tv : Value} {ws : List Bool} {pl : List (Int × Int)} {x : Mo} {d : DeskM} {v : RV} {p : Int → Option Int}
    (hgd : o.guard = none) (ho : o.op = .call { callee := .builtin .append, args := #[s, y], argTypes := #[63, 63] })
    (h : LookY F w X rb px mc tb wb ab tk bg dn db pv tv ws pl x d v) (hF : ∀ k, w.heap.size ≤ k → F k) (hn : d.goods.length ≤ 1000000000) (hws : ws = DeskM.wroteL p) (hlp : lastP pl = p) (hpl : pl.length ≤ 1000) (hdl : x.read.length = 16) (hdF : F db ∧ db ≠ w.heap.size) (hpF : ∀ k, pv.ownBlock = some k → F k ∧ k ≠ w.heap.size)
    (hs : a.eval s = v.gv) (hy : a.eval y = .slice (some ⟨X.heap.size, 0, none⟩) 1 1)
    (hk : ∀ g cap w', w'.cell? ⟨rb, 8, none⟩ = some v.gv → w'.frozen? ⟨rb, 8, none⟩ = false → LookZ F w (w'.setCell ⟨rb, 8, none⟩ (.slice (some ⟨g, 0, none⟩) (d.goods.length + 1) cap)) rb px mc ab tk bg dn tv x { d with goods := d.goods ++ [⟨tk, bg, x.read, p⟩] } { v with gv := .slice (some ⟨g, 0, none⟩) (d.goods.length + 1) cap, gs := v.gs ++ [⟨.slice (some ⟨db, 0, none⟩) 16 16, .slice (some ⟨wb, 0, none⟩) 16 16, pv, pl⟩] } → K (a.put o.dst (.slice (some ⟨g, 0, none⟩) (d.goods.length + 1) cap)) w') :
    if Region.wanted o (yielded ops a.tmps) = true then Oper.wp Tryz.prog o a (X.alloc (.cells #[.int .i64 (tk : Int), .int .i64 (bg : Int), .slice (some ⟨db, 0, none⟩) 16 16, .slice (some ⟨wb, 0, none⟩) 16 16, pv] 156)).drew K Q else E := by
  obtain ⟨i0, hi, hz0, hz1, hz2⟩ := info_parts Tryz.infoGood
  have hX1 : Below X.heap.size X (X.alloc (.cells #[.int .i64 (tk : Int), .int .i64 (bg : Int), .slice (some ⟨db, 0, none⟩) 16 16, .slice (some ⟨wb, 0, none⟩) 16 16, pv] 156)).drew := ((Below.refl _ _).alloc (Nat.le_refl _) _).drew
  have h1 := h.below hX1
  have hnew : (X.alloc (.cells #[.int .i64 (tk : Int), .int .i64 (bg : Int), .slice (some ⟨db, 0, none⟩) 16 16, .slice (some ⟨wb, 0, none⟩) 16 16, pv] 156)).drew.heap[X.heap.size]? = some (.cells #[.int .i64 (tk : Int), .int .i64 (bg : Int), .slice (some ⟨db, 0, none⟩) 16 16, .slice (some ⟨wb, 0, none⟩) 16 16, pv] 156 (0, 0)) := heap_alloc_new X _
  obtain ⟨pa, pc, hpv⟩ := owns_form h.pR
  refine step_append_lies _ hgd s y 63 ho 0 156 i0 _ 5 88 Tryz.underlying63 hi hz0 hz1 hz2 rfl (by decide) v.gv d.goods.length (goodCells d.goods v.gs) hs h1.rd.goods ⟨X.heap.size, 0, none⟩ 1 1 [.int .i64 (tk : Int), .int .i64 (bg : Int), .slice (some ⟨db, 0, none⟩) 16 16, .slice (some ⟨wb, 0, none⟩) 16 16, pv] hy rfl
    (World.news_of_block hnew) (fun u hu => by rw [hpv] at hu; simp at hu; rcases hu with rfl | rfl | rfl | rfl | rfl <;> rfl) (by decide) (by unfold maxLen; omega) (by omega) (by omega) _ rfl ?_
  intro g cap w' hown hgrow hat hlt
  have hF1 : Fr (fun k => v.gv.ownBlock = some k) X w' := (((Fr.refl _ X).alloc _).drew).grown hgrow (fun k hk _ => hk)
  have hrb : ¬ v.gv.ownBlock = some rb := owns_ne h.rd.goods h.rd.blk (by decide)
  have hb := hF1.blk h.rd.blk hrb
  have hr := RD.pushG (t := ⟨tk, bg, x.read, p⟩) (x := ⟨.slice (some ⟨db, 0, none⟩) 16 16, .slice (some ⟨wb, 0, none⟩) 16 16, pv, pl⟩) h.rd (fun k hk => ⟨hF k (by have := h.fr.size; omega), by have := blk_lt h.nB; omega⟩) hown hF1 (by rcases hat with e | e; exact Or.inl e; exact Or.inr (by have := hX1.size; omega)) (bools_of_blk h.dB hdl) (bools_of_blk (by rw [← hws]; exact h.wB) (by simp [DeskM.wroteL])) h.pR hpl hlp (fun k hk => by
    rcases hk with hk | hk | hk
    · injection hk with hk
      have hk : db = k := hk
      subst hk; exact hdF
    · injection hk with hk
      have hk : wb = k := hk
      subst hk; have := h.hw; exact ⟨hF _ (by omega), by omega⟩
    · exact hpF k hk)
  refine hk g cap w' (by rw [blk_cell hb]; rfl) (blk_free hb) ⟨hr.1, h.fr.trans hr.2 (fun _ _ h => h.1), h.rd.keepBlk hF1 h.aB (owns_ne h.rd.goods h.aB (by decide)) (by decide) _ _, h.rd.keepBlk hF1 h.nB (owns_ne h.rd.goods h.nB (by decide)) (by decide) _ _, h.rd.keepRow hF1 hrb h.tR (fun k hk hq => own_types h.tR h.rd.goods (by decide) hk hq) (by decide) _ _, h.rd.keepBlk hF1 h.mB (owns_ne h.rd.goods h.mB (by decide)) (by decide) _ _⟩
theorem looked_good {d : DeskM} {i q : Nat} {x : Mo} {st : Int} {pf : Int → Option Int} {tk bg : Nat} (hpf : (if st = 3 then x.puts else fun _ => none) = pf) (hE : (d.workers.getD i att0).ticket = tk ∧ (d.workers.getD i att0).beg = bg) (hq : tk = q + 1)
    (hP : 0 = DeskM.partner (DeskM.mk d.c d.jobs d.queue d.urgent (d.workers.set i att0) d.goods) (GoodM.mk tk bg x.read pf)) :
    d.looked i x st = (DeskM.mk d.c (d.jobs.set q { d.jobs.getD q jobM0 with state := st, told := x.told }) d.queue d.urgent (d.workers.set i att0) (d.goods ++ [⟨tk, bg, x.read, pf⟩]), 3, tk, 0) := by
  unfold DeskM.looked
  simp only [hE.1, hE.2, hpf]
  rw [if_neg (by rw [← hP]; simp), hq]
  rfl
theorem looked_fail {d : DeskM} {i : Nat} {x : Mo} {st : Int} {pf : Int → Option Int} {tk bg P u : Nat} (hpf : (if st = 3 then x.puts else fun _ => none) = pf) (hE : (d.workers.getD i att0).ticket = tk ∧ (d.workers.getD i att0).beg = bg)
    (hP : P = DeskM.partner (DeskM.mk d.c d.jobs d.queue d.urgent (d.workers.set i att0) d.goods) (GoodM.mk tk bg x.read pf)) (hu : P = u + 1) :
    d.looked i x st = DeskM.failedJ (DeskM.mk d.c d.jobs d.queue d.urgent (d.workers.set i att0) d.goods) tk (d.goods.getD u good0).ticket := by
  unfold DeskM.looked
  simp only [hE.1, hE.2, hpf]
  rw [if_pos (by rw [← hP]; omega), ← hP, hu]
  rfl
theorem LookZ.ended {F : Nat → Prop} {w X : World} {rb px : Nat} {mc : Array Value} {ab tk bg dn : Nat} {tv : Value} {x : Mo} {d : DeskM} {v : RV} (h : LookZ F w X rb px mc ab tk bg dn tv x d v) {q : Nat} (hq : q < d.jobs.length) (htv : ∀ k, tv.ownBlock = some k → (F k ∧ k ≠ w.heap.size) ∧ v.qv.ownBlock ≠ some k ∧ v.uv.ownBlock ≠ some k) (st : Int) :
    ∃ v', RD (fun k => F k ∧ k ≠ w.heap.size) ((X.setCell ⟨v.js.getD q 0, 1, none⟩ (.int .i64 st)).setCell ⟨v.js.getD q 0, 2, none⟩ tv) rb { d with jobs := d.jobs.set q { d.jobs.getD q jobM0 with state := st, told := x.told } } v' ∧ Fr F w ((X.setCell ⟨v.js.getD q 0, 1, none⟩ (.int .i64 st)).setCell ⟨v.js.getD q 0, 2, none⟩ tv) ∧
      ((X.setCell ⟨v.js.getD q 0, 1, none⟩ (.int .i64 st)).setCell ⟨v.js.getD q 0, 2, none⟩ tv).heap[w.heap.size]? = some (.cells #[.int .i64 0, .int .i64 0, .int .i64 0] 122 (0, 0)) := by
  obtain ⟨hjF, hjb⟩ := h.rd.jb q hq
  obtain ⟨r1, f1⟩ := h.rd.jobCell hq (c := 1) (x := .int .i64 st) (j' := { d.jobs.getD q jobM0 with state := st }) rfl rfl rfl
  have hq1 : q < (d.jobs.set q { d.jobs.getD q jobM0 with state := st }).length := by simpa using hq
  obtain ⟨r2, f2⟩ := r1.jobTold (i := q) hq1 (owns_set h.tR (owns_ne h.tR hjb (by decide)) _ _) htv
  have e : (d.jobs.set q { d.jobs.getD q jobM0 with state := st }).set q { (d.jobs.set q { d.jobs.getD q jobM0 with state := st }).getD q jobM0 with told := x.told } = d.jobs.set q { d.jobs.getD q jobM0 with state := st, told := x.told } := by
    rw [List.set_set]
    simp [List.getD, hq]
  refine ⟨_, by rw [← e]; exact r2, h.fr.trans (f1.trans f2 (fun _ _ h => h)) (fun _ _ h => h.1), ?_⟩
  rw [blk_other (fun e => hjF.2 e.symm), blk_other (fun e => hjF.2 e.symm)]
  exact h.nB
end Go.Proofs.YtlbmcdoldnajoaaGreat
