/- The document's own 'does': what is put, deleted, told. -/
import Derived.Test.YtlbmcdoldnajoaaDoes2
import Derived.Deep.RegionLaw
import Derived.Deep.AppendLies
namespace Go.Proofs.Ytlbmcdoldnajoaa
open Go.RowKit
attribute [local go_sem ↓] Go.wp_at_zero Go.wp_at_succ

theorem Try.infoPair : (Try.prog.info? 42).map (fun i => (i.zero, i.size, i.bytes)) = some (some (.agg #[.int .i64 0, .int .i64 0]), 2, 16) := by kernel_rfl
theorem Try.infoInt : (Try.prog.info? 3).map (fun i => (i.zero, i.size, i.bytes)) = some (some (.int .i64 0), 1, 8) := by kernel_rfl

/-- the blocks that a Moment owns -/
def momOwn (px rb db : Nat) (pv tv : Value) (k : Nat) : Prop := k = px ∨ k = rb ∨ k = db ∨ pv.ownBlock = some k ∨ tv.ownBlock = some k

/-- behind an append onto its puts, ahead of the store: what is known -/
def Putting (B : Nat) (W : World) (px rb db : Nat) (pv tv : Value) (x : Mo) (pl : List (Int × Int)) (p q : Int) (g cap : Nat) (w' : World) : Prop :=
  Mom B (w'.setCell ⟨px, 3, none⟩ (.slice (some ⟨g, 0, none⟩) (pl.length + 1) cap)) px rb db (.slice (some ⟨g, 0, none⟩) (pl.length + 1) cap) tv (putAt x p q) (pl ++ [(p, q)]) ∧ Fr (momOwn px rb db pv tv) W w'

theorem step_puts {ops : Array Oper} {o : Oper} {a : Act} {K : Act → World → Prop} {Q : Exit → Act → World → Prop} {E : Prop} (s y : Operand) {B : Nat} {W : World} {px rb db : Nat} {pv tv : Value} {x : Mo} {pl : List (Int × Int)} {p q : Int}
    (hgd : o.guard = none) (ho : o.op = .call { callee := .builtin .append, args := #[s, y], argTypes := #[24, 24] })
    (hM : Mom B W px rb db pv tv x pl) (hB : B ≤ W.heap.size) (hpl : pl.length ≤ 1000) (hs : a.eval s = pv) (hy : a.eval y = .slice (some ⟨W.heap.size, 0, none⟩) 1 1)
    (h : ∀ g cap w', w'.cell? ⟨px, 3, none⟩ = some pv → w'.frozen? ⟨px, 3, none⟩ = false → Putting B W px rb db pv tv x pl p q g cap w' → K (a.put o.dst (.slice (some ⟨g, 0, none⟩) (pl.length + 1) cap)) w') :
    if Region.wanted o (yielded ops a.tmps) = true then Oper.wp Try.prog o a (W.alloc (.cells #[.int .i64 p, .int .i64 q] 42)).drew K Q else E := by
  obtain ⟨i0, hi, hz0, hz1, hz2⟩ := info_parts Try.infoPair
  have hM1 := (hM.alloc (.cells #[.int .i64 p, .int .i64 q] 42)).drew
  have hnew : (W.alloc (.cells #[.int .i64 p, .int .i64 q] 42)).drew.heap[W.heap.size]? = some (.cells #[.int .i64 p, .int .i64 q] 42 (0, 0)) := heap_alloc_new W _
  have hsz : (W.alloc (.cells #[.int .i64 p, .int .i64 q] 42)).drew.heap.size = W.heap.size + 1 := by show (W.alloc _).heap.size = _; simp
  refine step_append_lies _ hgd s y 24 ho B 42 i0 _ 2 16 Try.underlying24 hi hz0 hz1 hz2 rfl (by decide) pv pl.length (prCells pl) hs hM1.puts ⟨W.heap.size, 0, none⟩ 1 1 [.int .i64 p, .int .i64 q] hy rfl
    (World.news_of_block hnew) (fun u hu => by simp at hu; rcases hu with rfl | rfl <;> rfl) (by decide) (by unfold maxLen; omega) (by omega) (by rw [hsz]; omega) _ rfl ?_
  intro g cap w' hown hgrow hat hlt
  have hF1 : Fr (fun k => pv.ownBlock = some k) W w' := (((Fr.refl _ W).alloc _).drew).grown hgrow (fun k hk _ => hk)
  have hpx : w'.heap[px]? = some (.cells (momCells x rb db pv tv) 152 (0, 0)) := hF1.blk hM.blk hM.ne_pp
  have hrb : w'.heap[rb]? = some (.cells (iv x.regs) 3 (0, 0)) := hF1.blk hM.regs hM.ne_pR
  have hdb : w'.heap[db]? = some (.cells (bv x.read) 4 (0, 0)) := hF1.blk hM.read hM.ne_pD
  have hgp : (Value.slice (some ⟨g, 0, none⟩) (pl.length + 1) cap).ownBlock ≠ some px := owns_ne hown hpx (by decide)
  have htv : ∀ k, tv.ownBlock = some k → ¬ pv.ownBlock = some k := fun k hk hp => by
    rcases hM.told.2 with ⟨rfl, _⟩ | ⟨g1, c1, u1, rfl, _, h1, _⟩
    · cases hk
    · rcases hM.puts.2 with ⟨rfl, _⟩ | ⟨g2, c2, u2, rfl, _, h2, _⟩
      · cases hp
      · injection hk with hk; injection hp with hp
        have e1 : g1 = k := hk
        have e2 : g2 = k := hp
        subst e1; subst e2
        exact blk_ne h1 h2 (by decide) rfl
  refine h g cap w' (by rw [blk_cell hpx]; rfl) (blk_free hpx) ⟨?_, hF1.mono (fun k _ hk => Or.inr (Or.inr (Or.inr (Or.inl hk))))⟩
  exact { bpx := hM.bpx, brb := hM.brb, bdb := hM.bdb
          blk := by rw [blk_set hpx]; simp [momCells, putAt]
          regs := by rw [blk_other hM.ne_pr.symm]; exact hrb
          rlen := hM.rlen
          read := by rw [blk_other hM.ne_pd.symm]; exact hdb
          dlen := hM.dlen
          puts := owns_set (by simpa [prCells_append, prCells] using hown) hgp _ _
          told := owns_set (owns_fr hM.told hF1 htv) hM.ne_tp _ _
          apart := hM.apart
          last := fun k => by rw [lastP_snoc, hM.last]; rfl }

theorem mom3_own {px rb db : Nat} {pv tv : Value} {k : Nat} (h : mom3 px rb db k) : momOwn px rb db pv tv k := by
  rcases h with h | h | h
  · exact Or.inl h
  · exact Or.inr (Or.inl h)
  · exact Or.inr (Or.inr (Or.inl h))

/-- behind an append onto what it told, ahead of the store -/
def Telling (B : Nat) (W : World) (px rb db : Nat) (pv tv : Value) (x : Mo) (pl : List (Int × Int)) (r : Int) (g cap : Nat) (w' : World) : Prop :=
  Mom B (w'.setCell ⟨px, 5, none⟩ (.slice (some ⟨g, 0, none⟩) (x.told.length + 1) cap)) px rb db pv (.slice (some ⟨g, 0, none⟩) (x.told.length + 1) cap) { x with told := x.told ++ [r] } pl ∧ Fr (momOwn px rb db pv tv) W w'

theorem step_told {ops : Array Oper} {o : Oper} {a : Act} {K : Act → World → Prop} {Q : Exit → Act → World → Prop} {E : Prop} (s y : Operand) {B : Nat} {W : World} {px rb db : Nat} {pv tv : Value} {x : Mo} {pl : List (Int × Int)} {r : Int}
    (hgd : o.guard = none) (ho : o.op = .call { callee := .builtin .append, args := #[s, y], argTypes := #[37, 37] })
    (hM : Mom B W px rb db pv tv x pl) (hB : B ≤ W.heap.size) (htl : x.told.length ≤ 1000) (hs : a.eval s = tv) (hy : a.eval y = .slice (some ⟨W.heap.size, 0, none⟩) 1 1)
    (h : ∀ g cap w', w'.cell? ⟨px, 5, none⟩ = some tv → w'.frozen? ⟨px, 5, none⟩ = false → Telling B W px rb db pv tv x pl r g cap w' → K (a.put o.dst (.slice (some ⟨g, 0, none⟩) (x.told.length + 1) cap)) w') :
    if Region.wanted o (yielded ops a.tmps) = true then Oper.wp Try.prog o a (W.alloc (.cells #[.int .i64 r] 3)).drew K Q else E := by
  obtain ⟨i0, hi, hz0, hz1, hz2⟩ := info_parts Try.infoInt
  have hM1 := (hM.alloc (.cells #[.int .i64 r] 3)).drew
  have hnew : (W.alloc (.cells #[.int .i64 r] 3)).drew.heap[W.heap.size]? = some (.cells #[.int .i64 r] 3 (0, 0)) := heap_alloc_new W _
  have hsz : (W.alloc (.cells #[.int .i64 r] 3)).drew.heap.size = W.heap.size + 1 := by show (W.alloc _).heap.size = _; simp
  refine step_append_lies _ hgd s y 37 ho B 3 i0 _ 1 8 Try.underlying37 hi hz0 hz1 hz2 rfl (by decide) tv x.told.length (x.told.map (Value.int .i64)) hs hM1.told ⟨W.heap.size, 0, none⟩ 1 1 [.int .i64 r] hy rfl
    (World.news_of_block hnew) (fun u hu => by simp at hu; subst hu; rfl) (by decide) (by unfold maxLen; omega) (by omega) (by rw [hsz]; omega) _ rfl ?_
  intro g cap w' hown hgrow hat hlt
  have hF1 : Fr (fun k => tv.ownBlock = some k) W w' := (((Fr.refl _ W).alloc _).drew).grown hgrow (fun k hk _ => hk)
  have hpx : w'.heap[px]? = some (.cells (momCells x rb db pv tv) 152 (0, 0)) := hF1.blk hM.blk hM.ne_tp
  have hrb : w'.heap[rb]? = some (.cells (iv x.regs) 3 (0, 0)) := hF1.blk hM.regs hM.apart
  have hdb : w'.heap[db]? = some (.cells (bv x.read) 4 (0, 0)) := hF1.blk hM.read hM.ne_tD
  have hgp : (Value.slice (some ⟨g, 0, none⟩) (x.told.length + 1) cap).ownBlock ≠ some px := owns_ne hown hpx (by decide)
  have htv : ∀ k, pv.ownBlock = some k → ¬ tv.ownBlock = some k := fun k hp hk => by
    rcases hM.told.2 with ⟨rfl, _⟩ | ⟨g1, c1, u1, rfl, _, h1, _⟩
    · cases hk
    · rcases hM.puts.2 with ⟨rfl, _⟩ | ⟨g2, c2, u2, rfl, _, h2, _⟩
      · cases hp
      · injection hk with hk; injection hp with hp
        have e1 : g1 = k := hk
        have e2 : g2 = k := hp
        subst e1; subst e2
        exact blk_ne h1 h2 (by decide) rfl
  refine h g cap w' (by rw [blk_cell hpx]; rfl) (blk_free hpx) ⟨?_, hF1.mono (fun k _ hk => Or.inr (Or.inr (Or.inr (Or.inr hk))))⟩
  exact { bpx := hM.bpx, brb := hM.brb, bdb := hM.bdb
          blk := by rw [blk_set hpx]; simp [momCells]
          regs := by rw [blk_other hM.ne_pr.symm]; exact hrb
          rlen := hM.rlen
          read := by rw [blk_other hM.ne_pd.symm]; exact hdb
          dlen := hM.dlen
          puts := owns_set (owns_fr hM.puts hF1 htv) hM.ne_pp _ _
          told := owns_set (by simpa using hown) hgp _ _
          apart := fun e => by
            injection e with e
            have e' : g = rb := e
            subst e'
            rcases hat with hat | hat
            · exact hM.apart hat
            · have := blk_lt hM.regs; rw [hat, hsz] at this; omega
          last := hM.last }

end Go.Proofs.Ytlbmcdoldnajoaa
