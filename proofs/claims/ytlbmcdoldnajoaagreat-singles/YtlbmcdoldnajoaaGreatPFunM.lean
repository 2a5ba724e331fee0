import Derived.Test.YtlbmcdoldnajoaaGreatPFunL
import Derived.Test.YtlbmcdoldnajoaaGreatRefCheckW
set_option maxRecDepth 100000
set_option maxHeartbeats 400000
namespace Go.Proofs.YtlbmcdoldnajoaaGreat
open Go.RowKit
attribute [local go_sem ↓] wStM wStR wLdM wLdR wLdK wStK wLdA wStA wLdG wStG wLdW wStW
structure Stop (p : Prop) : Prop where
  out : p
theorem stopL {p : Prop} (h : Stop p) : p := h.out
theorem run_app0 (w : World) (ty : TypeId) (g c : Nat) (ao : Option Addr) : (Builtin.append_ #[35, 35] ty #[.slice (some ⟨g, 0, none⟩) 0 0, .slice ao 0 c]).run Tryz.prog w = .ok (.slice (some ⟨g, 0, none⟩) 0 0) w := by
  obtain ⟨i0, hi0, hz0, hz1, hz2⟩ := info_parts Tryz.infoStep
  cases ao with
  | none => simp [Builtin.append_, run_underlying Tryz.underlying35, sizeOf, typeInfo, hi0, Builtin.lenOf, Builtin.firstCells, storeCells]
  | some ad => simp [Builtin.append_, run_underlying Tryz.underlying35, sizeOf, typeInfo, hi0, Builtin.lenOf, Builtin.firstCells, storeCells, loadCells, loadCellsFrom]
theorem wpList_app0 {w : World} {ops : Array Oper} {rest : List Oper} {o : Oper} {a : Act} {Q : Exit → Act → World → Prop} (hgd : o.guard = none) (s x : Operand)
    (ho : o.op = .call { callee := .builtin .append, args := #[s, x], argTypes := #[35, 35] }) (g c : Nat) (ao : Option Addr) (hs : a.eval s = .slice (some ⟨g, 0, none⟩) 0 0) (hx : a.eval x = .slice ao 0 c)
    (h : wpList Tryz.prog ops Q rest (a.put o.dst (.slice (some ⟨g, 0, none⟩) 0 0)) w) : wpList Tryz.prog ops Q (o :: rest) a w := by
  refine wpList_plain hgd fun K hK => ?_
  have hrun := run_app0 w o.type g c ao
  unfold Oper.wp
  simp [execOp, ho, resolve, invoke, builtin, hs, hx, hrun, Result.andThen]
  exact hK _ _ h
section
variable {o o' : Nat → Option Nat} {w w1 : World} {b : Nat} {p : PM} {v : PV}
theorem tkV_app (ts : List Nat) (jb n : Nat) (h : n ≤ ts.length) (h1 : 1 ≤ n) : tkV (ts ++ [jb]) n = tkV ts n := by
  unfold tkV
  congr 1
  simp [List.getD, List.getElem?_append_left (show n - 1 < ts.length by omega)]
theorem tkO_app (ts : List Nat) (jb n : Nat) (h : n ≤ ts.length) : tkO (ts ++ [jb]) n = tkO ts n := by
  unfold tkO
  split
  · rfl
  · exact tkV_app ts jb n h (by omega)
theorem PD.addTask (h : PD o w b p v) (hF : Fits p) (ho : Own w o o') {jb : Nat} {x sv : Value} {l : List St} (hnew : Blk o' (6 + 4 * p.tasks.length) w1 jb (taskC p.tasks.length ⟨1, 0, 0, l, []⟩ sv nilV) 128)
    (hst : Row o' (7 + 4 * p.tasks.length) w1 95 4 sv l.length (stCells l)) (hrow : Row o' 1 w1 125 1 x (p.tasks.length + 1) (v.ts.map ptrV ++ [ptrV jb])) (hf : Fr (fun k => o k = some 1) w w1) :
    PD o' (w1.setCell ⟨b, 38, none⟩ x) b { p with tasks := p.tasks ++ [⟨1, 0, 0, l, []⟩] } { v with jv := x, ts := v.ts ++ [jb], sv := v.sv ++ [sv], tv := v.tv ++ [nilV] } ∧ Fr (Mine o) w (w1.setCell ⟨b, 38, none⟩ x) := by
  have hb := h.blk nX
  have hb1 : Blk o' 0 w1 b (deskC p v).toArray 77 := hb.keep hf (fun k hk e => by rw [hk] at e; injection e with e; omega) ho
  have k := (PDr.less (Y := fun q => q = 0 ∨ q = 1) h (fun _ hx => absurd hx nX)).keep hf (fun k q hk e => by rw [e] at hk; injection hk with hk; exact Or.inr hk.symm) ho
  have hts := h.tsl
  have hsl := h.sl
  have htl := h.tl
  have hL : (p.tasks ++ [(⟨1, 0, 0, l, []⟩ : TaskM)]).length = p.tasks.length + 1 := by simp
  have hcase : ∀ i, i < p.tasks.length + 1 → i < p.tasks.length ∨ i = p.tasks.length := fun i hi => by omega
  have gj : ∀ i, i < p.tasks.length → (p.tasks ++ [(⟨1, 0, 0, l, []⟩ : TaskM)]).getD i task0 = p.tasks.getD i task0 := fun i hi => by simp [List.getD, List.getElem?_append_left hi]
  have gj' : (p.tasks ++ [(⟨1, 0, 0, l, []⟩ : TaskM)]).getD p.tasks.length task0 = ⟨1, 0, 0, l, []⟩ := by simp [List.getD]
  have gb : ∀ i, i < p.tasks.length → (v.ts ++ [jb]).getD i 0 = v.ts.getD i 0 := fun i hi => by simp [List.getD, List.getElem?_append_left (show i < v.ts.length by omega)]
  have gb' : (v.ts ++ [jb]).getD p.tasks.length 0 = jb := by simp [List.getD, ← hts]
  have gs : ∀ i, i < p.tasks.length → (v.sv ++ [sv]).getD i nilV = v.sv.getD i nilV := fun i hi => by simp [List.getD, List.getElem?_append_left (show i < v.sv.length by omega)]
  have gs' : (v.sv ++ [sv]).getD p.tasks.length nilV = sv := by simp [List.getD, ← hsl]
  have gt : ∀ i, i < p.tasks.length → (v.tv ++ [nilV]).getD i nilV = v.tv.getD i nilV := fun i hi => by simp [List.getD, List.getElem?_append_left (show i < v.tv.length by omega)]
  have gt' : (v.tv ++ [nilV]).getD p.tasks.length nilV = nilV := by simp [List.getD, ← htl]
  have hmap : ∀ q : List Nat, (∀ n ∈ q, 1 ≤ n ∧ n ≤ p.tasks.length) → q.map (tkV (v.ts ++ [jb])) = q.map (tkV v.ts) := fun q hq => List.map_congr_left (fun n hn => tkV_app _ _ _ (by rw [hts]; exact (hq n hn).2) (hq n hn).1)
  have hwk : wkCells (v.ts ++ [jb]) p.workers v.rt = wkCells v.ts p.workers v.rt := by
    have hrl := h.rl
    unfold wkCells
    congr 1
    apply List.ext_getElem?
    intro i
    rw [List.getElem?_zipWith, List.getElem?_zipWith]
    by_cases hi : i < p.workers.length
    · have hit : i < v.rt.length := by omega
      simp only [List.getElem?_eq_getElem hi, List.getElem?_eq_getElem hit]
      have := hF.wk i hi
      have e : p.wk i = p.workers[i] := by simp [PM.wk, List.getD, hi]
      rw [e] at this
      simp only [wkC]
      rw [tkO_app _ _ _ (by rw [hts]; exact this)]
    · simp [List.getElem?_eq_none (Nat.le_of_not_lt hi)]
  refine ⟨PDr.setTail (p' := { p with tasks := p.tasks ++ [⟨1, 0, 0, l, []⟩] }) (v' := { v with jv := x, ts := v.ts ++ [jb], sv := v.sv ++ [sv], tv := v.tv ++ [nilV] }) (x := x) (j := 2) hb1 ?_ rfl rfl rfl, (hf.mono (T := Mine o) (fun k _ e => PD.mine e)).setCell (p := ⟨b, 38, none⟩) (fun _ => PD.mine hb.1) _⟩
  exact { blk := fun hx => absurd rfl hx
          jobs := fun _ => by
            show Row o' 1 w1 _ 1 x (p.tasks ++ _).length ((v.ts ++ [jb]).map ptrV)
            rw [hL, List.map_append]
            exact hrow
          queue := fun _ => by
            show Row o' 2 w1 _ 1 v.qv p.queue.length (p.queue.map (tkV (v.ts ++ [jb])))
            rw [hmap _ hF.queue.2]; exact k.queue (by omega)
          urg := fun _ => by
            show Row o' 3 w1 _ 1 v.uv p.urgent.length (p.urgent.map (tkV (v.ts ++ [jb])))
            rw [hmap _ hF.urg.2]; exact k.urg (by omega)
          known := fun _ => k.known (by omega)
          work := fun _ => by
            show Blk o' 5 w1 v.wb (wkCells (v.ts ++ [jb]) p.workers v.rt).toArray _
            rw [hwk]; exact k.work (by omega)
          tb := fun i hi _ => by
            simp only [hL] at hi
            rcases hcase i hi with hi | rfl
            · simp only [gj i hi, gb i hi, gs i hi, gt i hi]; exact k.tb i hi (by omega)
            · simp only [gj', gb', gs', gt']; exact hnew
          st := fun i hi _ => by
            simp only [hL] at hi
            rcases hcase i hi with hi | rfl
            · simp only [gj i hi, gs i hi]; exact k.st i hi (by omega)
            · simp only [gj', gs']; exact hst
          told := fun i hi _ => by
            simp only [hL] at hi
            rcases hcase i hi with hi | rfl
            · simp only [gj i hi, gt i hi]; exact k.told i hi (by omega)
            · simp only [gj', gt']; exact ⟨World.ownsRow_nil _ _ _ _, fun k hk => by cases hk⟩
          rtold := fun i hi _ => k.rtold i hi (by omega)
          tsl := by simp [hts]
          sl := by simp [hsl]
          tl := by simp [htl]
          rl := k.rl
          wl := k.wl
          kl := k.kl }
def Subd (o : Nat → Option Nat) (w : World) (b : Nat) (r : PM × Nat × Int) (e : Ending) (w' : World) : Prop := e = .returned (.tuple #[.int .i64 (r.2.1 : Int), .int .i64 r.2.2]) ∧ ∃ o' v', PD o' w' b r.1 v' ∧ Own w o o' ∧ Fr (Mine o) w w'
theorem submit_pd (h : PD o w b p v) (hF : Fits p) (hl9 : p.tasks.length ≤ 999999999) (hq9 : p.queue.length ≤ 999999999) (sv : Value) (l : List St) (hsv : StepsV w sv l) :
    Calls Tryz.prog 57 #[ptrV b, sv] w fun e w' => Subd o w b (p.submit l) e w' := by
  have H : Hid (PD o w b p v) := h
  have HF : Hid (Fits p ∧ p.tasks.length ≤ 999999999 ∧ p.queue.length ≤ 999999999) := ⟨hF, hl9, hq9⟩
  have HSV : Hid (StepsV w sv l) := hsv
  clear hF hl9 hq9
  have hck := check_any sv l w hsv
  obtain ⟨sa, sc, rfl, hsl⟩ := hsv
  unfold ptrV
  cases hjb : jobB l
  · have HK : Hid (p.submit l = (p, 0, 1)) := by show _ = _; simp [PM.submit, hjb]
    have hcn : checkN l = 1 := by simp [checkN, hjb]
    rw [hcn] at hck
    generalize l.length = L at hck
    clear h hsl hcn HSV
    go_enter Tryz.func57, Tryz.ntmps57
    go_wp2_with fail
    refine hck.mono ?_
    clear hck
    rintro e W1 ⟨rfl, hb1⟩
    have HB1 : Hid (Below w.heap.size w W1) := hb1
    clear hb1
    go_wp2
    refine bodyPost_ret (v := .tuple #[.int .i64 0, .int .i64 1]) (by simp [results, Tryz.results57, go_sem]) rfl ?_
    rw [HK.out]
    exact ⟨rfl, o, v, H.out.below HB1.out, Own.refl _ _, Fr.of_below HB1.out⟩
  · have hcn : checkN l = 0 := by simp [checkN, hjb]
    rw [hcn] at hck
    obtain ⟨L, hL⟩ : ∃ L, L = l.length := ⟨_, rfl⟩
    have HLL : Hid (L = l.length ∧ jobB l = true) := ⟨hL, hjb⟩
    have hL32 : L ≤ 32 := by rw [hL]; exact (jobB_at hjb).1
    have HSL : Hid (l = [] ∨ ∃ b off, sa = some ⟨b, off, none⟩ ∧ b < w.heap.size ∧ StepsAt w b off l) := hsl
    rw [← hL] at hck ⊢
    clear h hsl hcn hjb hL HSV
    obtain ⟨i0, hi0, hz0, hz1, hz2⟩ := info_parts Tryz.infoStep
    obtain ⟨j0, hj0, hy0, hy1, hy2⟩ := info_parts Tryz.infoTk
    go_enter Tryz.func57, Tryz.ntmps57
    go_wp2_with fail
    refine hck.mono ?_
    clear hck
    rintro e W1 ⟨rfl, hb1⟩
    have HN1 : Hid (Now o w b v o W1 p v ∧ Below w.heap.size w W1) := ⟨(Now.start H.out).below hb1, hb1⟩
    clear hb1
    have cq := HN1.out.1.pd.cCQ
    have HWt : Hid (∀ k, Calls Tryz.prog 82 #[.pointer (some ⟨b, 0, none⟩)] (W1.drewN k) fun e w' => e = .returned (.int .i64 (p.waiting : Int)) ∧ w' = W1.drewN k) := fun k => waiting_any (HN1.out.1.pd.below (below_drewN (Below.refl _ W1) k)) HF.out.1.urg.2 HF.out.1.urg.1 HF.out.1.queue.1
    go_wp2_with fail
    by_cases hfull : p.c.queue ≤ p.waiting
    · have HK : Hid (p.submit l = (p, 0, 5)) := by show _ = _; simp [PM.submit, HLL.out.2, hfull]
      have m1 : (p.c.queue : Int) ≤ (p.waiting : Int) := by omega
      go_quiet ((go_at_call 82; exact Calls.quiet_of_same (HWt.out _)))
      go_wp2
      refine bodyPost_ret (v := .tuple #[.int .i64 0, .int .i64 5]) (by simp [results, Tryz.results57, go_sem]) rfl ?_
      rw [HK.out]
      have hb := below_drewN HN1.out.2
      exact ⟨rfl, o, v, H.out.below (hb _), Own.refl _ _, Fr.of_below (hb _)⟩
    · have HK : Hid (p.submit l = ({ p with tasks := p.tasks ++ [⟨1, 0, 0, l, []⟩], queue := p.queue ++ [p.tasks.length + 1] }, p.tasks.length + 1, 0)) := by show _ = _; simp [PM.submit, HLL.out.2, hfull]
      have m1 : ¬ (p.c.queue : Int) ≤ (p.waiting : Int) := by omega
      go_quiet ((go_at_call 82; exact Calls.quiet_of_same (HWt.out _)))
      have hX1 : Now o w b v o (W1.drewN nq) p v ∧ Below w.heap.size w (W1.drewN nq) := ⟨HN1.out.1.below (below_drewN (Below.refl _ W1) _), below_drewN HN1.out.2 _⟩
      refine name_x (p := fun X => Now o w b v o X p v ∧ Below w.heap.size w X) hX1 ?_
      clear hX1 HN1 HWt cq m1
      rintro X1 hX1
      have HX1 : Hid (Now o w b v o X1 p v ∧ Below w.heap.size w X1) := hX1
      clear hX1
      have hE : Hid ((X1.alloc (.cells #[] 95)).ownsRow X1.heap.size 95 4 (.slice (some ⟨X1.heap.size, 0, none⟩) 0 0) 0 []) := ⟨rfl, Or.inr ⟨X1.heap.size, 0, #[], rfl, Nat.le_refl _, heap_alloc_new _ _, Nat.le_refl _, Nat.zero_le _, rfl, rfl⟩⟩
      by_cases hl0 : l = []
      · have hL0 : L = 0 := by rw [HLL.out.1, hl0]; rfl
        subst hL0
        go_wp2_with (at_builtin; refine wpList_app0 (by rfl) _ _ (by rfl) X1.heap.size _ _ (by rfl) (by rfl) ?_; refine stopL ?_)
        refine ⟨?_⟩
        have hX2 : Now o w b v o (X1.alloc (.cells #[] 95)) p v ∧ Fr (fun k => o k = some 1) w (X1.alloc (.cells #[] 95)) ∧ (X1.alloc (.cells #[] 95)).ownsRow w.heap.size 95 4 (.slice (some ⟨X1.heap.size, 0, none⟩) 0 0) l.length (stCells l) := ⟨HX1.out.1.below ((Below.refl _ _).alloc (Nat.le_refl _) _), (Fr.of_below (S := fun k => o k = some 1) HX1.out.2).alloc _, by rw [hl0]; exact owns_base hE.out HX1.out.2.size⟩
        generalize X1.alloc (.cells #[] 95) = X2 at hX2 ⊢
        have HX2 : Hid (Now o w b v o X2 p v ∧ Fr (fun k => o k = some 1) w X2 ∧ X2.ownsRow w.heap.size 95 4 (.slice (some ⟨X1.heap.size, 0, none⟩) 0 0) l.length (stCells l)) := hX2
        clear hX2 hE
        have hlb := HX2.out.1.pd.lt
        obtain ⟨ja, jc, hjv⟩ := owns_form (HX2.out.1.pd.jobs nX).1
        have c38 := HX2.out.1.pd.cJobs
        rw [hjv] at c38
        obtain ⟨J, hJ⟩ : ∃ J, J = p.tasks.length := ⟨_, rfl⟩
        have HJ : Hid (J = p.tasks.length ∧ v.jv = .slice ja J jc ∧ X2.ownsRow 0 125 1 (.slice ja J jc) J (v.ts.map ptrV)) := ⟨hJ, by rw [hJ]; exact hjv, by rw [hJ, ← hjv]; exact (HX2.out.1.pd.jobs nX).1⟩
        rw [← hJ] at c38
        have hJ9 : J ≤ 999999999 := by rw [hJ]; exact HF.out.2.1
        have hwr : IntKind.i64.wrap ((J : Int) + 1) = (J : Int) + 1 := by rw [IntKind.wrap_i64]; omega
        clear hjv hJ
        go_wp2_with (at_builtin; refine stopL ?_)
        refine ⟨?_⟩
        have hown0 : ((X2.alloc (.cells #[.int .i64 ((J : Int) + 1), .int .i64 1, .int .i64 0, .int .i64 0, (.slice (some ⟨X1.heap.size, 0, none⟩) 0 0), .slice none 0 0] 128)).alloc (.cells #[.pointer (some ⟨X2.heap.size, 0, none⟩)] 125)).ownsRow 0 125 1 (.slice ja J jc) J (v.ts.map ptrV) := (HJ.out.2.2.alloc _).alloc _
        refine wpList_append_lies _ (by rfl) _ _ 75 (by rfl) 0 125 j0 _ 1 8 Tryz.underlying75 hj0 hy0 hy1 hy2 (by rfl) (by decide) _ _ _ (by rfl) hown0 ⟨X2.heap.size + 1, 0, none⟩ 1 1 [.pointer (some ⟨X2.heap.size, 0, none⟩)] (by rfl) (by rfl) (World.news_of_block (new1E _ _ _)) (fun u hu => by simp at hu; subst hu; rfl) (by decide) (by unfold maxLen; omega) (by omega) (Nat.zero_le _) _ (by rfl) ?_
        intro g cap w' hown hgrow hat _
        have hbX : Below X2.heap.size X2 ((X2.alloc (.cells #[.int .i64 ((J : Int) + 1), .int .i64 1, .int .i64 0, .int .i64 0, (.slice (some ⟨X1.heap.size, 0, none⟩) 0 0), .slice none 0 0] 128)).alloc (.cells #[.pointer (some ⟨X2.heap.size, 0, none⟩)] 125)) := ((Below.refl _ _).alloc (Nat.le_refl _) _).alloc (by simp) _
        obtain ⟨o', ho'⟩ : ∃ o' : Nat → Option Nat, o' = fun k => if k < w.heap.size then o k else if ((.slice (some ⟨X1.heap.size, 0, none⟩) 0 0) : Value).ownBlock = some k then some (7 + 4 * J) else if k = X2.heap.size then some (6 + 4 * J) else some 1 := ⟨_, rfl⟩
        have hsz : w.heap.size ≤ X2.heap.size := HX2.out.1.fr.size
        have hadd := by
          have hjn := (H.out.jobs nX)
          have hfj : Fr (fun k => (Value.slice ja J jc).ownBlock = some k) X2 w' := (Fr.of_below (S := fun k => (Value.slice ja J jc).ownBlock = some k) hbX).grown hgrow (fun k hk _ => hk)
          have hf1 : Fr (fun k => o k = some 1) w w' := HX2.out.2.1.trans hfj (fun k hk e => hjn.2 k (by rw [HJ.out.2.1]; exact e))
          have hsb : ∀ k, ((.slice (some ⟨X1.heap.size, 0, none⟩) 0 0) : Value).ownBlock = some k → w.heap.size ≤ k ∧ k < X2.heap.size := fun k hk => ⟨owns_ge HX2.out.2.2 hk, (owns_lt HX2.out.2.2 hk).2⟩
          have hnX : w'.heap[X2.heap.size]? = some (.cells (taskC p.tasks.length ⟨1, 0, 0, l, []⟩ (.slice (some ⟨X1.heap.size, 0, none⟩) 0 0) nilV) 128 (0, 0)) := by
            have hx : ((X2.alloc (.cells #[.int .i64 ((J : Int) + 1), .int .i64 1, .int .i64 0, .int .i64 0, (.slice (some ⟨X1.heap.size, 0, none⟩) 0 0), .slice none 0 0] 128)).alloc (.cells #[.pointer (some ⟨X2.heap.size, 0, none⟩)] 125)).heap[X2.heap.size]? = some (.cells (taskC p.tasks.length ⟨1, 0, 0, l, []⟩ (.slice (some ⟨X1.heap.size, 0, none⟩) 0 0) nilV) 128 (0, 0)) := (new0E _ _ _).trans (by rw [← HJ.out.1]; rfl)
            rw [hgrow.block X2.heap.size (by simp; omega) (fun e => by have := (owns_lt HJ.out.2.2 e.symm).2; omega)]
            exact hx
          exact H.out.addTask HF.out.1 (o' := o') (fun k hk => by rw [ho']; exact if_pos hk) (w1 := w') (jb := X2.heap.size) (x := .slice (some ⟨g, 0, none⟩) (J + 1) cap) (sv := (.slice (some ⟨X1.heap.size, 0, none⟩) 0 0)) (l := l)
            ⟨by rw [ho', ← HJ.out.1]; simp only; rw [if_neg (by omega), if_neg (fun e => by have := (hsb _ e).2; omega)]; simp, hnX⟩
            ⟨owns_base (owns_fr HX2.out.2.2 hfj (fun k hk hq => own_types HX2.out.2.2 HJ.out.2.2 (by decide) hk hq)) (Nat.zero_le _), fun k hk => by rw [ho', ← HJ.out.1]; simp only; rw [if_neg (by have := (hsb k hk).1; omega), if_pos hk]⟩
            ⟨by rw [← HJ.out.1]; exact hown, fun k hk => by
              injection hk with hk
              have hk : g = k := hk
              subst hk
              rw [ho']
              simp only
              rcases hat with e | e
              · have hlt := (owns_lt hjn.1 (by rw [HJ.out.2.1]; exact e)).2
                rw [if_pos hlt]
                exact hjn.2 g (by rw [HJ.out.2.1]; exact e)
              · have e' : g = X2.heap.size + 2 := by rw [e]; simp
                rw [if_neg (by omega), if_neg (fun e2 => by have := (hsb _ e2).2; omega), if_neg (by omega)]⟩ hf1
        obtain ⟨p3, hp3⟩ : ∃ p3 : PM, p3 = { p with tasks := p.tasks ++ [⟨1, 0, 0, l, []⟩] } := ⟨_, rfl⟩
        obtain ⟨v3, hv3⟩ : ∃ v3 : PV, v3 = { v with jv := .slice (some ⟨g, 0, none⟩) (J + 1) cap, ts := v.ts ++ [X2.heap.size], sv := v.sv ++ [(.slice (some ⟨X1.heap.size, 0, none⟩) 0 0)], tv := v.tv ++ [nilV] } := ⟨_, rfl⟩
        rw [← hp3, ← hv3] at hadd
        have HA : Hid (PD o' (w'.setCell ⟨b, 38, none⟩ (.slice (some ⟨g, 0, none⟩) (J + 1) cap)) b p3 v3 ∧ Fr (Mine o) w (w'.setCell ⟨b, 38, none⟩ (.slice (some ⟨g, 0, none⟩) (J + 1) cap)) ∧ Own w o o') := ⟨hadd.1, hadd.2, fun k hk => by rw [ho']; exact if_pos hk⟩
        have HP3 : Hid (p3.queue = p.queue ∧ v3.qv = v.qv ∧ tkV v3.ts (J + 1) = .pointer (some ⟨X2.heap.size, 0, none⟩) ∧ J < p3.tasks.length ∧ p.submit l = ({ p3 with queue := p3.queue ++ [J + 1] }, J + 1, 0)) := by
          have hts := H.out.tsl
          refine ⟨by rw [hp3], by rw [hv3], by rw [hv3, HJ.out.1, ← hts]; simp [tkV, ptrV, List.getD], by rw [hp3, HJ.out.1]; simp, by rw [HK.out, hp3, HJ.out.1]⟩
        have hfb : Fr (fun k => (Value.slice ja J jc).ownBlock = some k) X2 w' := (Fr.of_below (S := fun k => (Value.slice ja J jc).ownBlock = some k) hbX).grown hgrow (fun k hk _ => hk)
        have hnb : ¬ (Value.slice ja J jc).ownBlock = some b := owns_ne HJ.out.2.2 HX2.out.1.pd.dblk (by decide)
        have k1 : w'.cell? ⟨b, 38, none⟩ = some (.slice ja J jc) := (hfb.cell hlb hnb).trans c38
        have k2 : w'.frozen? ⟨b, 38, none⟩ = false := (hfb.frozen hlb hnb).trans (HX2.out.1.pd.free _)
        have hX2w : X2.heap.size < w'.heap.size := by have := hgrow.size; simp at this; omega
        clear hown hgrow hat hown0 hbX hadd hp3 hv3 ho' hfb hnb c38
        obtain ⟨qa, qc, hqv⟩ := owns_form (HA.out.1.queue nX).1
        have hc39 := HA.out.1.cQueue
        rw [hqv] at hc39
        have c39 : w'.cell? ⟨b, 39, none⟩ = some (.slice qa p3.queue.length qc) := by
          rw [World.cell?_setCell_other _ _ _ _ (by intro e; injection e with e1 e2; omega)] at hc39
          exact hc39
        obtain ⟨M, hM⟩ : ∃ M, M = p3.queue.length := ⟨_, rfl⟩
        have hM9 : M ≤ 999999999 := by rw [hM, HP3.out.1]; exact HF.out.2.2
        have HM : Hid (M = p3.queue.length ∧ v3.qv = .slice qa M qc) := ⟨hM, by rw [hM]; exact hqv⟩
        rw [← hM] at c39
        have hlb' : b < w'.heap.size := by omega
        clear hqv hc39 hM
        go_wp2_with (at_builtin; refine stopL ?_)
        refine ⟨?_⟩
        obtain ⟨X4, hX4⟩ : ∃ X4, X4 = w'.setCell ⟨b, 38, none⟩ (.slice (some ⟨g, 0, none⟩) (J + 1) cap) := ⟨_, rfl⟩
        have HX4 : Hid (PD o' X4 b p3 v3 ∧ Fr (Mine o) w X4 ∧ Own w o o') := by rw [hX4]; exact HA.out
        have hsz4 : X4.heap.size = w'.heap.size := by rw [hX4]; simp
        rw [← hX4]
        clear hX4 HA k1 k2 c39 hX2w hlb' hlb
        have hown4 : (X4.alloc (.cells #[.pointer (some ⟨X2.heap.size, 0, none⟩)] 125)).ownsRow 0 125 1 (.slice qa M qc) M (p3.queue.map (tkV v3.ts)) := by
          have := (HX4.out.1.queue nX).1
          rw [HM.out.2, ← HM.out.1] at this
          exact this.alloc _
        refine wpList_append_lies _ (by rfl) _ _ 75 (by rfl) 0 125 j0 _ 1 8 Tryz.underlying75 hj0 hy0 hy1 hy2 (by rfl) (by decide) _ _ _ (by rfl) hown4 ⟨w'.heap.size, 0, none⟩ 1 1 [.pointer (some ⟨X2.heap.size, 0, none⟩)] (by rfl) (by rfl) (by rw [← hsz4]; exact World.news_of_block (heap_alloc_new _ _)) (fun u hu => by simp at hu; subst hu; rfl) (by decide) (by unfold maxLen; omega) (by omega) (Nat.zero_le _) _ (by rfl) ?_
        intro g4 cap4 w4 hown5 hgrow5 hat5 _
        have hx := HX4.out.1.pushQ (X1 := X4.alloc (.cells #[.pointer (some ⟨X2.heap.size, 0, none⟩)] 125)) ((Below.refl _ _).alloc (Nat.le_refl _) _) (n := J + 1) (g := g4) (cap := cap4) (w' := w4) (by rw [HP3.out.2.2.1, ← HM.out.1]; exact hown5) (by rw [HM.out.2]; exact hgrow5) (by rw [HM.out.2]; rcases hat5 with e | e; exact Or.inl e; exact Or.inr (by first | omega | (simp at e; omega)))
        rw [← HM.out.1, HM.out.2] at hx
        have k1 := hx.2.1
        have k2 := hx.2.2
        have HFin : Hid (PD (grow X4 o' 2) (w4.setCell ⟨b, 39, none⟩ (.slice (some ⟨g4, 0, none⟩) (M + 1) cap4)) b { p3 with queue := p3.queue ++ [J + 1] } { v3 with qv := .slice (some ⟨g4, 0, none⟩) (M + 1) cap4 } ∧ Own w o (grow X4 o' 2) ∧ Fr (Mine o) w (w4.setCell ⟨b, 39, none⟩ (.slice (some ⟨g4, 0, none⟩) (M + 1) cap4))) := ⟨hx.1.1, HX4.out.2.2.trans (own_grow _ _ _) HX4.out.2.1.size, HX4.out.2.1.mine hx.1.2 HX4.out.2.2⟩
        have hct := HFin.out.1.cTk (i := J) HP3.out.2.2.2.1 0
        have htv : v3.ts.getD J 0 = X2.heap.size := by
          have := HP3.out.2.2.1
          unfold tkV ptrV at this
          rw [Nat.add_sub_cancel] at this
          injection this with this
          injection this with this
          injection this
        have ct : w4.cell? ⟨X2.heap.size, 0, none⟩ = some (.int .i64 ((J : Int) + 1)) := by
          simp only [htv] at hct
          rw [World.cell?_setCell_other _ _ _ _ (by
            intro e
            injection e with e1 e2
            have hbb := HX4.out.1.dblk
            have htt := HX4.out.1.task (i := J) HP3.out.2.2.2.1
            rw [htv] at htt
            exact blk_ne hbb htt (by decide) e1)] at hct
          exact hct
        have hnb : ¬ X2.heap.size = b := by
          intro e1
          have hbb := HX4.out.1.dblk
          have htt := HX4.out.1.task (i := J) HP3.out.2.2.2.1
          rw [htv] at htt
          exact blk_ne htt hbb (by decide) e1
        clear hown5 hgrow5 hat5 hx hown4 hct htv
        go_wp2
        refine bodyPost_ret (v := .tuple #[.int .i64 ((J : Int) + 1), .int .i64 0]) (by simp [results, Tryz.results57, go_sem]) rfl ?_
        rw [HP3.out.2.2.2.2]
        exact ⟨rfl, _, _, HFin.out.1, HFin.out.2.1, HFin.out.2.2⟩
      · have hL0 : ¬ L = 0 := fun e => hl0 (List.eq_nil_of_length_eq_zero (by rw [← HLL.out.1]; exact e))
        obtain ⟨sb, so, hsa, hsb, hsl⟩ : ∃ sb so, sa = some ⟨sb, so, none⟩ ∧ sb < w.heap.size ∧ StepsAt w sb so l := by
          rcases HSL.out with e | ⟨b, off, e1, e2, e3⟩
          · exact absurd e hl0
          · exact ⟨b, off, e1, e2, e3⟩
        subst hsa
        have HSt : Hid (StepsAt X1 sb so l) := hsl.below HX1.out.2 hsb
        have hsX : sb < X1.heap.size := by have := HX1.out.2.size; omega
        clear hsl HSL
        go_wp2_with (at_builtin; refine wpList_append_lies _ (by rfl) _ _ 35 (by rfl) X1.heap.size 95 i0 _ 4 32 Tryz.underlying35 hi0 hz0 hz1 hz2 (by rfl) (by decide) _ _ _ (by rfl) hE.out ⟨sb, so, none⟩ L sc (stCells l) (by rfl) ?_ ?_ ?_ (by omega) ?_ ?_ ?_ _ (by rfl) ?_)
        · rw [length_stCells, HLL.out.1]
        · intro j u hj
          rw [Addr.add_mid]
          have := HSt.out.cells j u hj
          rw [Addr.add_mid] at this
          exact ((Below.refl X1.heap.size X1).alloc (Nat.le_refl _) _).cell (p := ⟨sb, so + j, none⟩) hsX |>.trans this
        · exact stCells_oneCell l
        · unfold maxLen; omega
        · omega
        · simp
        intro g1 cap1 X2 hownS hgrowS hatS _
        have hbS : Below X1.heap.size X1 X2 := ((Below.refl X1.heap.size X1).alloc (Nat.le_refl _) _).grown hgrowS (by simp) (fun k hk => by injection hk with hk; exact Nat.le_of_eq hk)
        have HX2 : Hid (Now o w b v o X2 p v ∧ Fr (fun k => o k = some 1) w X2 ∧ X2.ownsRow w.heap.size 95 4 (.slice (some ⟨g1, 0, none⟩) L cap1) l.length (stCells l)) := ⟨HX1.out.1.below hbS, (Fr.of_below (S := fun k => o k = some 1) HX1.out.2).trans (Fr.of_below (S := fun k => o k = some 1) hbS) (fun _ _ h => h), by have := owns_base hownS HX1.out.2.size; rw [← HLL.out.1]; exact this⟩
        clear hownS hgrowS hatS hbS hE HSt hsX hsb
        have hlb := HX2.out.1.pd.lt
        obtain ⟨ja, jc, hjv⟩ := owns_form (HX2.out.1.pd.jobs nX).1
        have c38 := HX2.out.1.pd.cJobs
        rw [hjv] at c38
        obtain ⟨J, hJ⟩ : ∃ J, J = p.tasks.length := ⟨_, rfl⟩
        have HJ : Hid (J = p.tasks.length ∧ v.jv = .slice ja J jc ∧ X2.ownsRow 0 125 1 (.slice ja J jc) J (v.ts.map ptrV)) := ⟨hJ, by rw [hJ]; exact hjv, by rw [hJ, ← hjv]; exact (HX2.out.1.pd.jobs nX).1⟩
        rw [← hJ] at c38
        have hJ9 : J ≤ 999999999 := by rw [hJ]; exact HF.out.2.1
        have hwr : IntKind.i64.wrap ((J : Int) + 1) = (J : Int) + 1 := by rw [IntKind.wrap_i64]; omega
        clear hjv hJ
        go_wp2_with (at_builtin; refine stopL ?_)
        refine ⟨?_⟩
        have hown0 : ((X2.alloc (.cells #[.int .i64 ((J : Int) + 1), .int .i64 1, .int .i64 0, .int .i64 0, (.slice (some ⟨g1, 0, none⟩) L cap1), .slice none 0 0] 128)).alloc (.cells #[.pointer (some ⟨X2.heap.size, 0, none⟩)] 125)).ownsRow 0 125 1 (.slice ja J jc) J (v.ts.map ptrV) := (HJ.out.2.2.alloc _).alloc _
        refine wpList_append_lies _ (by rfl) _ _ 75 (by rfl) 0 125 j0 _ 1 8 Tryz.underlying75 hj0 hy0 hy1 hy2 (by rfl) (by decide) _ _ _ (by rfl) hown0 ⟨X2.heap.size + 1, 0, none⟩ 1 1 [.pointer (some ⟨X2.heap.size, 0, none⟩)] (by rfl) (by rfl) (World.news_of_block (new1E _ _ _)) (fun u hu => by simp at hu; subst hu; rfl) (by decide) (by unfold maxLen; omega) (by omega) (Nat.zero_le _) _ (by rfl) ?_
        intro g cap w' hown hgrow hat _
        have hbX : Below X2.heap.size X2 ((X2.alloc (.cells #[.int .i64 ((J : Int) + 1), .int .i64 1, .int .i64 0, .int .i64 0, (.slice (some ⟨g1, 0, none⟩) L cap1), .slice none 0 0] 128)).alloc (.cells #[.pointer (some ⟨X2.heap.size, 0, none⟩)] 125)) := ((Below.refl _ _).alloc (Nat.le_refl _) _).alloc (by simp) _
        obtain ⟨o', ho'⟩ : ∃ o' : Nat → Option Nat, o' = fun k => if k < w.heap.size then o k else if ((.slice (some ⟨g1, 0, none⟩) L cap1) : Value).ownBlock = some k then some (7 + 4 * J) else if k = X2.heap.size then some (6 + 4 * J) else some 1 := ⟨_, rfl⟩
        have hsz : w.heap.size ≤ X2.heap.size := HX2.out.1.fr.size
        have hadd := by
          have hjn := (H.out.jobs nX)
          have hfj : Fr (fun k => (Value.slice ja J jc).ownBlock = some k) X2 w' := (Fr.of_below (S := fun k => (Value.slice ja J jc).ownBlock = some k) hbX).grown hgrow (fun k hk _ => hk)
          have hf1 : Fr (fun k => o k = some 1) w w' := HX2.out.2.1.trans hfj (fun k hk e => hjn.2 k (by rw [HJ.out.2.1]; exact e))
          have hsb : ∀ k, ((.slice (some ⟨g1, 0, none⟩) L cap1) : Value).ownBlock = some k → w.heap.size ≤ k ∧ k < X2.heap.size := fun k hk => ⟨owns_ge HX2.out.2.2 hk, (owns_lt HX2.out.2.2 hk).2⟩
          have hnX : w'.heap[X2.heap.size]? = some (.cells (taskC p.tasks.length ⟨1, 0, 0, l, []⟩ (.slice (some ⟨g1, 0, none⟩) L cap1) nilV) 128 (0, 0)) := by
            have hx : ((X2.alloc (.cells #[.int .i64 ((J : Int) + 1), .int .i64 1, .int .i64 0, .int .i64 0, (.slice (some ⟨g1, 0, none⟩) L cap1), .slice none 0 0] 128)).alloc (.cells #[.pointer (some ⟨X2.heap.size, 0, none⟩)] 125)).heap[X2.heap.size]? = some (.cells (taskC p.tasks.length ⟨1, 0, 0, l, []⟩ (.slice (some ⟨g1, 0, none⟩) L cap1) nilV) 128 (0, 0)) := (new0E _ _ _).trans (by rw [← HJ.out.1]; rfl)
            rw [hgrow.block X2.heap.size (by simp; omega) (fun e => by have := (owns_lt HJ.out.2.2 e.symm).2; omega)]
            exact hx
          exact H.out.addTask HF.out.1 (o' := o') (fun k hk => by rw [ho']; exact if_pos hk) (w1 := w') (jb := X2.heap.size) (x := .slice (some ⟨g, 0, none⟩) (J + 1) cap) (sv := (.slice (some ⟨g1, 0, none⟩) L cap1)) (l := l)
            ⟨by rw [ho', ← HJ.out.1]; simp only; rw [if_neg (by omega), if_neg (fun e => by have := (hsb _ e).2; omega)]; simp, hnX⟩
            ⟨owns_base (owns_fr HX2.out.2.2 hfj (fun k hk hq => own_types HX2.out.2.2 HJ.out.2.2 (by decide) hk hq)) (Nat.zero_le _), fun k hk => by rw [ho', ← HJ.out.1]; simp only; rw [if_neg (by have := (hsb k hk).1; omega), if_pos hk]⟩
            ⟨by rw [← HJ.out.1]; exact hown, fun k hk => by
              injection hk with hk
              have hk : g = k := hk
              subst hk
              rw [ho']
              simp only
              rcases hat with e | e
              · have hlt := (owns_lt hjn.1 (by rw [HJ.out.2.1]; exact e)).2
                rw [if_pos hlt]
                exact hjn.2 g (by rw [HJ.out.2.1]; exact e)
              · have e' : g = X2.heap.size + 2 := by rw [e]; simp
                rw [if_neg (by omega), if_neg (fun e2 => by have := (hsb _ e2).2; omega), if_neg (by omega)]⟩ hf1
        obtain ⟨p3, hp3⟩ : ∃ p3 : PM, p3 = { p with tasks := p.tasks ++ [⟨1, 0, 0, l, []⟩] } := ⟨_, rfl⟩
        obtain ⟨v3, hv3⟩ : ∃ v3 : PV, v3 = { v with jv := .slice (some ⟨g, 0, none⟩) (J + 1) cap, ts := v.ts ++ [X2.heap.size], sv := v.sv ++ [(.slice (some ⟨g1, 0, none⟩) L cap1)], tv := v.tv ++ [nilV] } := ⟨_, rfl⟩
        rw [← hp3, ← hv3] at hadd
        have HA : Hid (PD o' (w'.setCell ⟨b, 38, none⟩ (.slice (some ⟨g, 0, none⟩) (J + 1) cap)) b p3 v3 ∧ Fr (Mine o) w (w'.setCell ⟨b, 38, none⟩ (.slice (some ⟨g, 0, none⟩) (J + 1) cap)) ∧ Own w o o') := ⟨hadd.1, hadd.2, fun k hk => by rw [ho']; exact if_pos hk⟩
        have HP3 : Hid (p3.queue = p.queue ∧ v3.qv = v.qv ∧ tkV v3.ts (J + 1) = .pointer (some ⟨X2.heap.size, 0, none⟩) ∧ J < p3.tasks.length ∧ p.submit l = ({ p3 with queue := p3.queue ++ [J + 1] }, J + 1, 0)) := by
          have hts := H.out.tsl
          refine ⟨by rw [hp3], by rw [hv3], by rw [hv3, HJ.out.1, ← hts]; simp [tkV, ptrV, List.getD], by rw [hp3, HJ.out.1]; simp, by rw [HK.out, hp3, HJ.out.1]⟩
        have hfb : Fr (fun k => (Value.slice ja J jc).ownBlock = some k) X2 w' := (Fr.of_below (S := fun k => (Value.slice ja J jc).ownBlock = some k) hbX).grown hgrow (fun k hk _ => hk)
        have hnb : ¬ (Value.slice ja J jc).ownBlock = some b := owns_ne HJ.out.2.2 HX2.out.1.pd.dblk (by decide)
        have k1 : w'.cell? ⟨b, 38, none⟩ = some (.slice ja J jc) := (hfb.cell hlb hnb).trans c38
        have k2 : w'.frozen? ⟨b, 38, none⟩ = false := (hfb.frozen hlb hnb).trans (HX2.out.1.pd.free _)
        have hX2w : X2.heap.size < w'.heap.size := by have := hgrow.size; simp at this; omega
        clear hown hgrow hat hown0 hbX hadd hp3 hv3 ho' hfb hnb c38
        obtain ⟨qa, qc, hqv⟩ := owns_form (HA.out.1.queue nX).1
        have hc39 := HA.out.1.cQueue
        rw [hqv] at hc39
        have c39 : w'.cell? ⟨b, 39, none⟩ = some (.slice qa p3.queue.length qc) := by
          rw [World.cell?_setCell_other _ _ _ _ (by intro e; injection e with e1 e2; omega)] at hc39
          exact hc39
        obtain ⟨M, hM⟩ : ∃ M, M = p3.queue.length := ⟨_, rfl⟩
        have hM9 : M ≤ 999999999 := by rw [hM, HP3.out.1]; exact HF.out.2.2
        have HM : Hid (M = p3.queue.length ∧ v3.qv = .slice qa M qc) := ⟨hM, by rw [hM]; exact hqv⟩
        rw [← hM] at c39
        have hlb' : b < w'.heap.size := by omega
        clear hqv hc39 hM
        go_wp2_with (at_builtin; refine stopL ?_)
        refine ⟨?_⟩
        obtain ⟨X4, hX4⟩ : ∃ X4, X4 = w'.setCell ⟨b, 38, none⟩ (.slice (some ⟨g, 0, none⟩) (J + 1) cap) := ⟨_, rfl⟩
        have HX4 : Hid (PD o' X4 b p3 v3 ∧ Fr (Mine o) w X4 ∧ Own w o o') := by rw [hX4]; exact HA.out
        have hsz4 : X4.heap.size = w'.heap.size := by rw [hX4]; simp
        rw [← hX4]
        clear hX4 HA k1 k2 c39 hX2w hlb' hlb
        have hown4 : (X4.alloc (.cells #[.pointer (some ⟨X2.heap.size, 0, none⟩)] 125)).ownsRow 0 125 1 (.slice qa M qc) M (p3.queue.map (tkV v3.ts)) := by
          have := (HX4.out.1.queue nX).1
          rw [HM.out.2, ← HM.out.1] at this
          exact this.alloc _
        refine wpList_append_lies _ (by rfl) _ _ 75 (by rfl) 0 125 j0 _ 1 8 Tryz.underlying75 hj0 hy0 hy1 hy2 (by rfl) (by decide) _ _ _ (by rfl) hown4 ⟨w'.heap.size, 0, none⟩ 1 1 [.pointer (some ⟨X2.heap.size, 0, none⟩)] (by rfl) (by rfl) (by rw [← hsz4]; exact World.news_of_block (heap_alloc_new _ _)) (fun u hu => by simp at hu; subst hu; rfl) (by decide) (by unfold maxLen; omega) (by omega) (Nat.zero_le _) _ (by rfl) ?_
        intro g4 cap4 w4 hown5 hgrow5 hat5 _
        have hx := HX4.out.1.pushQ (X1 := X4.alloc (.cells #[.pointer (some ⟨X2.heap.size, 0, none⟩)] 125)) ((Below.refl _ _).alloc (Nat.le_refl _) _) (n := J + 1) (g := g4) (cap := cap4) (w' := w4) (by rw [HP3.out.2.2.1, ← HM.out.1]; exact hown5) (by rw [HM.out.2]; exact hgrow5) (by rw [HM.out.2]; rcases hat5 with e | e; exact Or.inl e; exact Or.inr (by first | omega | (simp at e; omega)))
        rw [← HM.out.1, HM.out.2] at hx
        have k1 := hx.2.1
        have k2 := hx.2.2
        have HFin : Hid (PD (grow X4 o' 2) (w4.setCell ⟨b, 39, none⟩ (.slice (some ⟨g4, 0, none⟩) (M + 1) cap4)) b { p3 with queue := p3.queue ++ [J + 1] } { v3 with qv := .slice (some ⟨g4, 0, none⟩) (M + 1) cap4 } ∧ Own w o (grow X4 o' 2) ∧ Fr (Mine o) w (w4.setCell ⟨b, 39, none⟩ (.slice (some ⟨g4, 0, none⟩) (M + 1) cap4))) := ⟨hx.1.1, HX4.out.2.2.trans (own_grow _ _ _) HX4.out.2.1.size, HX4.out.2.1.mine hx.1.2 HX4.out.2.2⟩
        have hct := HFin.out.1.cTk (i := J) HP3.out.2.2.2.1 0
        have htv : v3.ts.getD J 0 = X2.heap.size := by
          have := HP3.out.2.2.1
          unfold tkV ptrV at this
          rw [Nat.add_sub_cancel] at this
          injection this with this
          injection this with this
          injection this
        have ct : w4.cell? ⟨X2.heap.size, 0, none⟩ = some (.int .i64 ((J : Int) + 1)) := by
          simp only [htv] at hct
          rw [World.cell?_setCell_other _ _ _ _ (by
            intro e
            injection e with e1 e2
            have hbb := HX4.out.1.dblk
            have htt := HX4.out.1.task (i := J) HP3.out.2.2.2.1
            rw [htv] at htt
            exact blk_ne hbb htt (by decide) e1)] at hct
          exact hct
        have hnb : ¬ X2.heap.size = b := by
          intro e1
          have hbb := HX4.out.1.dblk
          have htt := HX4.out.1.task (i := J) HP3.out.2.2.2.1
          rw [htv] at htt
          exact blk_ne htt hbb (by decide) e1
        clear hown5 hgrow5 hat5 hx hown4 hct htv
        go_wp2
        refine bodyPost_ret (v := .tuple #[.int .i64 ((J : Int) + 1), .int .i64 0]) (by simp [results, Tryz.results57, go_sem]) rfl ?_
        rw [HP3.out.2.2.2.2]
        exact ⟨rfl, _, _, HFin.out.1, HFin.out.2.1, HFin.out.2.2⟩
end
end Go.Proofs.YtlbmcdoldnajoaaGreat
