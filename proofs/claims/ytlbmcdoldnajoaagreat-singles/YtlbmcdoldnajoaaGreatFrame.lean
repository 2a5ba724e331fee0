import Derived.Below
import Derived.Test.YtlbmcdoldnajoaaGreatRows
import Derived.WalkKit
import Derived.WalkSpells
import Derived.WalkLawsBesides
import Derived.BigGuardPart
import Derived.WalkSmall
set_option maxRecDepth 100000
set_option maxHeartbeats 400000
namespace Go.Proofs.YtlbmcdoldnajoaaGreat
open Go.RowKit
structure St where
  op : Int
  a : Int
  b : Int
  c : Int
def stz : St := ⟨0, 0, 0, 0⟩
def regB (n : Int) : Bool := decide (0 ≤ n ∧ n ≤ 3)
def keyB (n : Int) : Bool := decide (0 ≤ n ∧ n ≤ 15)
def inB (n lo hi : Int) : Bool := decide (lo ≤ n ∧ n ≤ hi)
def stepB (op a b c ahead behind : Int) : Bool :=
  if op = 1 then regB a && inB b 0 999 && decide (c = 0)
  else if op = 2 then regB a && keyB b && decide (c = 0)
  else if op = 3 then keyB a && regB b && decide (c = 0)
  else if op = 4 then keyB a && decide (b = 0) && decide (c = 0)
  else if op = 5 ∨ op = 6 then regB a && keyB b && keyB c && decide (b ≤ c)
  else if op = 7 ∨ op = 8 then regB a && regB b && decide (c = 0)
  else if op = 9 then regB a && inB b 1 behind && decide (c = 0)
  else if op = 10 then regB a && inB b 1 ahead && decide (c = 0)
  else if op = 11 then regB a && decide (b = 0) && decide (c = 0)
  else if op = 12 then decide (a = 0) && decide (b = 0) && decide (c = 0)
  else false
def stB (s : St) (i n : Nat) : Bool := stepB s.op s.a s.b s.c i ((n : Int) - 1 - i)
def jobB (l : List St) : Bool := decide (l.length ≤ 32) && (List.range l.length).all fun i => stB (l.getD i stz) i l.length
def checkN (l : List St) : Int := if jobB l then 0 else 1
theorem checkN_long {l : List St} (h : 32 < l.length) : checkN l = 1 := by
  have : ¬ l.length ≤ 32 := by omega
  simp [checkN, jobB, this]
theorem checkN_bad {l : List St} {k : Nat} (h : k < l.length) (hk : stB (l.getD k stz) k l.length = false) : checkN l = 1 := by
  have : jobB l = false := by
    simp only [jobB, Bool.and_eq_false_iff]
    right
    rw [List.all_eq_false]
    exact ⟨k, by simpa using h, by rw [hk]; simp⟩
  simp [checkN, this]
theorem checkN_good {l : List St} (h : l.length ≤ 32) (hk : ∀ k, k < l.length → stB (l.getD k stz) k l.length = true) : checkN l = 0 := by
  have : jobB l = true := by
    simp only [jobB, Bool.and_eq_true, decide_eq_true_eq, List.all_eq_true, List.mem_range]
    exact ⟨h, hk⟩
  simp [checkN, this]
def vIn : List (Int × Int) → Int → Int
  | [], _ => -1
  | p :: r, k => if p.1 = k then p.2 else vIn r k
def lastP (l : List (Int × Int)) (k : Int) : Option Int := l.foldl (fun acc p => if p.1 = k then some p.2 else acc) none
theorem lastP_nil (k : Int) : lastP [] k = none := rfl
theorem lastP_snoc (l : List (Int × Int)) (p : Int × Int) (k : Int) : lastP (l ++ [p]) k = if p.1 = k then some p.2 else lastP l k := by simp [lastP]
structure Mo where
  pc : Nat
  done : Nat
  regs : List Int
  puts : Int → Option Int
  read : List Bool
  told : List Int
  fin : Int
def mo0 : Mo := ⟨0, 0, [0, 0, 0, 0], fun _ => none, List.replicate 16 false, [], 0⟩
def see (m : Int → Int) (puts : Int → Option Int) (k : Int) : Int := (puts k).getD (m k)
def mark (puts : Int → Option Int) (rd : List Bool) (k : Int) : List Bool := if (puts k).isSome then rd else rd.set k.toNat true
def sumK (f : Int → Int) (b : Int) : Nat → Int
  | 0 => 0
  | n + 1 => sumK f b n + if 0 ≤ f (b + n) then f (b + n) else 0
def cntK (f : Int → Int) (b : Int) : Nat → Int
  | 0 => 0
  | n + 1 => cntK f b n + if 0 ≤ f (b + n) then 1 else 0
def markK (puts : Int → Option Int) (rd : List Bool) (b : Int) : Nat → List Bool
  | 0 => rd
  | n + 1 => mark puts (markK puts rd b n) (b + n)
def reg (x : Mo) (a : Int) : Int := x.regs.getD a.toNat 0
def setReg (x : Mo) (a v : Int) : Mo := { x with regs := x.regs.set a.toNat v }
def bec (x : Mo) (a v : Int) : Mo := if v < 0 ∨ 9999 < v then { x with fin := 5 } else setReg x a v
def putAt (x : Mo) (k v : Int) : Mo := { x with puts := fun j => if k = j then some v else x.puts j }
def stp (s : St) (m : Int → Int) (x0 : Mo) : Mo :=
  let x : Mo := { x0 with done := x0.done + 1, pc := x0.pc + 1 }
  if s.op = 1 then setReg x s.a s.b
  else if s.op = 2 then setReg { x with read := mark x.puts x.read s.b } s.a (if see m x.puts s.b < 0 then 0 else see m x.puts s.b)
  else if s.op = 3 then putAt x s.a (reg x s.b)
  else if s.op = 4 then putAt x s.a (-1)
  else if s.op = 5 then bec { x with read := markK x.puts x.read s.b (s.c - s.b + 1).toNat } s.a (sumK (see m x.puts) s.b (s.c - s.b + 1).toNat)
  else if s.op = 6 then bec { x with read := markK x.puts x.read s.b (s.c - s.b + 1).toNat } s.a (cntK (see m x.puts) s.b (s.c - s.b + 1).toNat)
  else if s.op = 7 then bec x s.a (reg x s.a + reg x s.b)
  else if s.op = 8 then bec x s.a (reg x s.a - reg x s.b)
  else if s.op = 9 then (if reg x s.a = 0 then { x with pc := x.pc + s.b.toNat } else x)
  else if s.op = 10 then (if 0 < reg x s.a then { x with pc := x.pc - s.b.toNat - 1 } else x)
  else if s.op = 11 then { x with told := x.told ++ [reg x s.a] }
  else if s.op = 12 then { x with fin := 4 }
  else x
def play (l : List St) (m : Int → Int) : Nat → Mo → Mo
  | 0, x => x
  | n + 1, x => if x.fin = 0 ∧ x.pc < l.length then play l m n (stp (l.getD x.pc stz) m x) else x
def endState (l : List St) (x : Mo) : Int := if x.fin = 0 then (if l.length ≤ x.pc then 3 else 5) else x.fin
def listOf (f : Int → Int) : List (Int × Int) := (List.range 16).filterMap fun k : Nat => if 0 ≤ f k then some ((k : Int), f k) else none
def mapAfter (l : List St) (m : Int → Int) (x : Mo) : Int → Int := if endState l x = 3 then see m x.puts else m
def mapB (l : List (Int × Int)) : Bool := (List.range l.length).all fun i => keyB (l.getD i (0, 0)).1 && decide (0 ≤ (l.getD i (0, 0)).2 ∧ (l.getD i (0, 0)).2 ≤ 9999) && (decide (i = 0) || decide ((l.getD (i - 1) (0, 0)).1 < (l.getD i (0, 0)).1))
def runErr (l : List St) (m : List (Int × Int)) (fuel : Int) : Int :=
  if checkN l ≠ 0 then 1 else if mapB m = false then 2 else if fuel < 1 ∨ 200 < fuel then 3 else 0
theorem ret_bool {a b : Bool} (h : a = b) : Ending.returned (.bool a) = .returned (.bool b) := by rw [h]
theorem reg_any (n : Int) (w : World) :
    Calls Tryz.prog 72 #[.int .i64 n] w fun e w' => e = .returned (.bool (regB n)) ∧ w' = w := by
  by_cases h1 : 0 ≤ n <;> by_cases h2 : n < 4
  all_goals
    go_enter Tryz.func72, Tryz.ntmps72
    go_wp2
    go_ret
    refine ⟨ret_bool ?_, rfl⟩
    simp [regB]; try omega
theorem key_any (n : Int) (w : World) :
    Calls Tryz.prog 73 #[.int .i64 n] w fun e w' => e = .returned (.bool (keyB n)) ∧ w' = w := by
  by_cases h1 : 0 ≤ n <;> by_cases h2 : n < 16
  all_goals
    go_enter Tryz.func73, Tryz.ntmps73
    go_wp2
    go_ret
    refine ⟨ret_bool ?_, rfl⟩
    simp [keyB]; try omega
theorem isWithin_any (n lo hi : Int) (w : World) :
    Calls Tryz.prog 47 #[.int .i64 n, .int .i64 lo, .int .i64 hi] w fun e w' => e = .returned (.bool (inB n lo hi)) ∧ w' = w := by
  by_cases h1 : lo ≤ n <;> by_cases h2 : n ≤ hi
  all_goals
    go_enter Tryz.func47, Tryz.ntmps47
    go_wp2
    go_ret
    refine ⟨ret_bool ?_, rfl⟩
    simp [inB]; try omega
theorem isRegister_any (n : Int) (w : World) :
    Calls Tryz.prog 70 #[.int .i64 n] w fun e w' => e = .returned (.bool (regB n)) ∧ w' = w := by
  go_enter Tryz.func70, Tryz.ntmps70
  go_wp2_with (go_at_call 47; refine (isWithin_any _ _ _ _).mono ?_; rintro e w' ⟨rfl, rfl⟩)
  go_ret
  exact ⟨rfl, rfl⟩
theorem isKey_any (n : Int) (w : World) :
    Calls Tryz.prog 71 #[.int .i64 n] w fun e w' => e = .returned (.bool (keyB n)) ∧ w' = w := by
  go_enter Tryz.func71, Tryz.ntmps71
  go_wp2_with (go_at_call 47; refine (isWithin_any _ _ _ _).mono ?_; rintro e w' ⟨rfl, rfl⟩)
  go_ret
  exact ⟨rfl, rfl⟩
def StepsAt (w : World) (b off : Nat) (l : List St) : Prop := ∀ i, i < l.length →
  w.cell? ⟨b, off + i * 4, none⟩ = some (.int .i64 (l.getD i stz).op) ∧ w.cell? ⟨b, off + i * 4 + 1, none⟩ = some (.int .i64 (l.getD i stz).a) ∧
  w.cell? ⟨b, off + i * 4 + 2, none⟩ = some (.int .i64 (l.getD i stz).b) ∧ w.cell? ⟨b, off + i * 4 + 3, none⟩ = some (.int .i64 (l.getD i stz).c)
theorem StepsAt.below {w w' : World} {B b off : Nat} {l : List St} (h : StepsAt w b off l) (hb : Below B w w') (hlt : b < B) : StepsAt w' b off l := fun i hi =>
  ⟨(hb.cell (p := ⟨b, _, none⟩) hlt).trans (h i hi).1, (hb.cell (p := ⟨b, _, none⟩) hlt).trans (h i hi).2.1, (hb.cell (p := ⟨b, _, none⟩) hlt).trans (h i hi).2.2.1, (hb.cell (p := ⟨b, _, none⟩) hlt).trans (h i hi).2.2.2⟩
def StepsV (w : World) (v : Value) (l : List St) : Prop := ∃ ao cap, v = .slice ao l.length cap ∧ (l = [] ∨ ∃ b off, ao = some ⟨b, off, none⟩ ∧ b < w.heap.size ∧ StepsAt w b off l)
theorem StepsV.below {w w' : World} {v : Value} {l : List St} (h : StepsV w v l) (hb : Below w.heap.size w w') : StepsV w' v l := by
  obtain ⟨ao, cap, rfl, h⟩ := h
  refine ⟨ao, cap, rfl, ?_⟩
  rcases h with h | ⟨b, off, h1, h2, h3⟩
  · exact Or.inl h
  · exact Or.inr ⟨b, off, h1, Nat.lt_of_lt_of_le h2 hb.size, h3.below hb h2⟩
theorem ret_int {k : IntKind} {a b : Int} (h : a = b) : Ending.returned (.int k a) = .returned (.int k b) := by rw [h]
def pz : Int × Int := (0, 0)
def PairsAt (w : World) (b off : Nat) (l : List (Int × Int)) : Prop := ∀ i, i < l.length →
  w.cell? ⟨b, off + i * 2, none⟩ = some (.int .i64 (l.getD i pz).1) ∧ w.cell? ⟨b, off + i * 2 + 1, none⟩ = some (.int .i64 (l.getD i pz).2)
theorem PairsAt.below {w w' : World} {B b off : Nat} {l : List (Int × Int)} (h : PairsAt w b off l) (hb : Below B w w') (hlt : b < B) : PairsAt w' b off l := fun i hi =>
  ⟨(hb.cell (p := ⟨b, _, none⟩) hlt).trans (h i hi).1, (hb.cell (p := ⟨b, _, none⟩) hlt).trans (h i hi).2⟩
def PairsV (w : World) (B : Nat) (v : Value) (l : List (Int × Int)) : Prop := ∃ ao cap, v = .slice ao l.length cap ∧ l.length ≤ 140737488351232 ∧ (l = [] ∨ ∃ b off, ao = some ⟨b, off, none⟩ ∧ b < B ∧ PairsAt w b off l)
theorem PairsV.below {w w' : World} {B B' : Nat} {v : Value} {l : List (Int × Int)} (h : PairsV w B v l) (hb : Below B' w w') (hB : B ≤ B') : PairsV w' B v l := by
  obtain ⟨ao, cap, rfl, hm, h⟩ := h
  refine ⟨ao, cap, rfl, hm, ?_⟩
  rcases h with h | ⟨b, off, h1, h2, h3⟩
  · exact Or.inl h
  · exact Or.inr ⟨b, off, h1, h2, h3.below hb (by omega)⟩
theorem vIn_skip : ∀ (l : List (Int × Int)) (k : Int) (n : Nat), (∀ j, j < n → j < l.length → (l.getD j pz).1 ≠ k) → vIn l k = vIn (l.drop n) k
  | _, _, 0, _ => by simp
  | [], _, n + 1, _ => by simp
  | p :: r, k, n + 1, h => by
    have h0 := h 0 (by omega) (by simp)
    simp only [List.getD_cons_zero] at h0
    rw [vIn, if_neg h0, List.drop_succ_cons]
    exact vIn_skip r k n (fun j hj hl => by simpa using h (j + 1) (by omega) (by simpa using hl))
theorem vIn_at {l : List (Int × Int)} {k : Int} {n : Nat} (hn : n < l.length) (h : ∀ j, j < n → (l.getD j pz).1 ≠ k) (hk : (l.getD n pz).1 = k) : vIn l k = (l.getD n pz).2 := by
  rw [vIn_skip l k n (fun j hj _ => h j hj), List.drop_eq_getElem_cons hn, vIn]
  have e : l.getD n pz = l[n] := by simp [List.getD, hn]
  rw [e] at hk ⊢
  rw [if_pos hk]
theorem vIn_none {l : List (Int × Int)} {k : Int} (h : ∀ j, j < l.length → (l.getD j pz).1 ≠ k) : vIn l k = -1 := by
  rw [vIn_skip l k l.length (fun j hj _ => h j hj)]; simp [vIn]
theorem valueIn_at (b off cap : Nat) (l : List (Int × Int)) (k : Int) (w : World) (hm : l.length ≤ 140737488351232) (hs : PairsAt w b off l) :
    Calls Tryz.prog 81 #[.slice (some ⟨b, off, none⟩) l.length cap, .int .i64 k] w fun e w' => e = .returned (.int .i64 (vIn l k)) ∧ w' = w := by
  obtain ⟨n, hn⟩ : ∃ n, n = l.length := ⟨_, rfl⟩
  have HN : Hid (n = l.length) := hn
  rw [← hn] at hm ⊢
  clear hn
  go_enter Tryz.func81, Tryz.ntmps81
  go_wp2
  go_loop [5] (fun i => ∃ j : Nat, j ≤ n ∧ i = .int .i64 j ∧ (∀ t, t < j → (l.getD t pz).1 ≠ k)) (fun i => n - (intOf i).toNat)
  case atStart => exact ⟨0, Nat.zero_le _, rfl, fun t ht => absurd ht (Nat.not_lt_zero _)⟩
  case round =>
    obtain ⟨j, hj, rfl, hall⟩ := hrel
    have HA : Hid (∀ t, t < j → (l.getD t pz).1 ≠ k) := hall
    clear hall
    by_cases hlt : j < n
    · have hlt' : j < l.length := by rw [← HN.out]; exact hlt
      obtain ⟨c0, c1⟩ := hs j hlt'
      obtain ⟨p, hp⟩ : ∃ p, p = l.getD j pz := ⟨_, rfl⟩
      rw [← hp] at c0 c1
      have HP : Hid (p = l.getD j pz) := hp
      clear hp
      obtain ⟨p1, p2⟩ := p
      simp only at c0 c1
      by_cases hk : p1 = k
      · subst hk
        go_wp2
        go_ret
        exact ⟨ret_int ((vIn_at hlt' HA.out (by rw [← HP.out])).trans (by rw [← HP.out])).symm, rfl⟩
      · go_wp2
        go_round
        case rel =>
          refine ⟨j + 1, by omega, by go_num, fun t ht => ?_⟩
          by_cases htj : t = j
          · subst htj; rw [← HP.out]; exact hk
          · exact HA.out t (by omega)
        case measure => simp [intOf]; omega
    · go_wp2
      go_ret
      exact ⟨ret_int (vIn_none (fun t ht => HA.out t (by have := HN.out; omega))).symm, rfl⟩
theorem valueIn_none (ao : Option Addr) (cap : Nat) (k : Int) (w : World) :
    Calls Tryz.prog 81 #[.slice ao 0 cap, .int .i64 k] w fun e w' => e = .returned (.int .i64 (-1)) ∧ w' = w := by
  go_enter Tryz.func81, Tryz.ntmps81
  go_wp2
  go_loop [5] (fun i => i = .int .i64 0) (fun _ => 0)
  case atStart => rfl
  case round =>
    subst hrel
    go_wp2
    go_ret
    exact ⟨rfl, rfl⟩
theorem valueIn_any (v : Value) (B : Nat) (l : List (Int × Int)) (k : Int) (w : World) (h : PairsV w B v l) :
    Calls Tryz.prog 81 #[v, .int .i64 k] w fun e w' => e = .returned (.int .i64 (vIn l k)) ∧ w' = w := by
  obtain ⟨ao, cap, rfl, hm, h⟩ := h
  rcases h with rfl | ⟨b, off, rfl, hb, hs⟩
  · exact valueIn_none ao cap k w
  · exact valueIn_at b off cap l k w hm hs
structure Fr (S : Nat → Prop) (w w' : World) : Prop where
  os : w'.os = w.os
  tape : w'.tape = w.tape
  output : w'.output = w.output
  size : w.heap.size ≤ w'.heap.size
  block : ∀ k, k < w.heap.size → ¬ S k → w'.heap[k]? = w.heap[k]?
namespace Fr
variable {S T : Nat → Prop} {a b c w w' : World}
theorem refl (S : Nat → Prop) (w : World) : Fr S w w := ⟨rfl, rfl, rfl, Nat.le_refl _, fun _ _ _ => rfl⟩
theorem trans (h : Fr S a b) (k : Fr T b c) (hT : ∀ i, i < a.heap.size → T i → S i) : Fr S a c :=
  ⟨k.os.trans h.os, k.tape.trans h.tape, k.output.trans h.output, Nat.le_trans h.size k.size, fun i hi hs => (k.block i (Nat.lt_of_lt_of_le hi h.size) (fun ht => hs (hT i hi ht))).trans (h.block i hi hs)⟩
theorem mono (h : Fr S a b) (hS : ∀ i, i < a.heap.size → S i → T i) : Fr T a b := ⟨h.os, h.tape, h.output, h.size, fun i hi ht => h.block i hi (fun hs => ht (hS i hi hs))⟩
theorem of_below (h : Below w.heap.size w w') : Fr S w w' := ⟨h.os, h.tape, h.output, h.size, fun k hk _ => h.block k hk⟩
theorem below {B : Nat} (h : Fr S w w') (hS : ∀ k, S k → B ≤ k) (hB : B ≤ w.heap.size) : Below B w w' := ⟨h.os, h.tape, h.output, h.size, fun k hk => h.block k (by omega) (fun hs => by have := hS k hs; omega)⟩
theorem alloc (h : Fr S a w) (o : Obj) : Fr S a (w.alloc o) :=
  ⟨h.os, h.tape, h.output, by rw [World.size_alloc]; exact Nat.le_succ_of_le h.size, fun k hk hs => by rw [Below.heap_alloc _ _ _ (Nat.lt_of_lt_of_le hk h.size)]; exact h.block k hk hs⟩
theorem drew (h : Fr S a w) : Fr S a w.drew := ⟨h.os, h.tape, h.output, h.size, h.block⟩
theorem drewN (h : Fr S a w) (n : Nat) : Fr S a (w.drewN n) := ⟨h.os, h.tape, h.output, h.size, h.block⟩
theorem setCell (h : Fr S a w) {p : Addr} (hp : p.block < a.heap.size → S p.block) (u : Value) : Fr S a (w.setCell p u) :=
  ⟨h.os, h.tape, h.output, by rw [World.size_setCell]; exact h.size, fun k hk hs => by
    rw [Below.heap_setCell _ _ _ _ (fun e => by subst e; exact hs (hp hk))]; exact h.block k hk hs⟩
theorem grown {row : Option Nat} (h : Fr S a w) (hg : w.grownBy w' row) (hr : ∀ k, row = some k → k < a.heap.size → S k) : Fr S a w' :=
  ⟨hg.os.trans h.os, hg.tape.trans h.tape, hg.output.trans h.output, Nat.le_trans h.size hg.size, fun k hk hs =>
    (hg.block k (Nat.lt_of_lt_of_le hk h.size) (fun e => hs (hr k e.symm hk))).trans (h.block k hk hs)⟩
theorem cell (h : Fr S w w') {b o : Nat} (hb : b < w.heap.size) (hs : ¬ S b) : w'.cell? ⟨b, o, none⟩ = w.cell? ⟨b, o, none⟩ := World.cell?_of_block (w := w) (h.block b hb hs)
theorem frozen (h : Fr S w w') {b o : Nat} (hb : b < w.heap.size) (hs : ¬ S b) : w'.frozen? ⟨b, o, none⟩ = w.frozen? ⟨b, o, none⟩ := World.frozen?_of_block (w := w) (h.block b hb hs)
theorem blk (h : Fr S w w') {b : Nat} {o : Obj} (hb : w.heap[b]? = some o) (hs : ¬ S b) : w'.heap[b]? = some o := (h.block b (Array.getElem?_eq_some_iff.1 hb).1 hs).trans hb
end Fr
theorem owns_fr {S : Nat → Prop} {w w' : World} {base : Nat} {e : TypeId} {size : Nat} {v : Value} {n : Nat} {xs : List Value} (h : w.ownsRow base e size v n xs) (hf : Fr S w w') (hs : ∀ k, v.ownBlock = some k → ¬ S k) : w'.ownsRow base e size v n xs := by
  obtain ⟨h1, h2⟩ := h
  refine ⟨h1, ?_⟩
  rcases h2 with h2 | ⟨g, cap, cur, hv, hg, hh, r⟩
  · exact Or.inl h2
  · exact Or.inr ⟨g, cap, cur, hv, hg, hf.blk hh (hs g (by subst hv; rfl)), r⟩
end Go.Proofs.YtlbmcdoldnajoaaGreat
