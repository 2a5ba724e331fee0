import Derived.Test.YtlbmcdoldnajoaaRefD

namespace Go.Proofs.Ytlbmcdoldnajoaa
open Go.RowKit
/-- what Poll hands back: a list of its own -/
def PolledP (d : DeskM) (n : Int) (w : World) (e : Ending) (w' : World) : Prop :=
  ∃ tv, e = .returned (.tuple #[.agg #[.int .i64 (d.poll n).1, tv, .int .i64 (d.poll n).2.2.1], .int .i64 (d.poll n).2.2.2]) ∧ w'.ownsRow w.heap.size 3 1 tv (d.poll n).2.1.length ((d.poll n).2.1.map (Value.int .i64)) ∧ Below w.heap.size w w'
def confV (a b c d : Int) : Value := .agg #[.int .i64 a, .int .i64 b, .int .i64 c, .int .i64 d]
def NewP (PD : (Nat → Prop) → World → Nat → DeskM → Prop) (cf : ConfM) (w : World) (e : Ending) (w' : World) : Prop := ∃ b, e = .returned (.tuple #[ptrV b, .int .i64 0]) ∧ PD (fun k => w.heap.size ≤ k) w' b (desk0 cf) ∧ Below w.heap.size w w'
/-- a program's desk: how it lies in memory, and what New, Map and Poll do -/
structure DeskKit where
  PD : (Nat → Prop) → World → Nat → DeskM → Prop
  fr : ∀ {F R : Nat → Prop} {w w' : World} {b : Nat} {d : DeskM}, PD F w b d → Fr R w w' → (∀ k, F k → ¬ R k) → PD F w' b d
  mono : ∀ {F F' : Nat → Prop} {w : World} {b : Nat} {d : DeskM}, PD F w b d → (∀ k, k < w.heap.size → F k → F' k) → PD F' w b d
  new : ∀ (cf : ConfM) (w : World), confB cf.workers cf.queue cf.fuel cf.patience = true → Calls Try.prog 53 #[confV cf.workers cf.queue cf.fuel cf.patience] w fun e w' => NewP PD cf w e w'
  newBad : ∀ (a b c d : Int) (w : World), confB a b c d = false → Calls Try.prog 53 #[confV a b c d] w fun e w' => e = .returned (.tuple #[.pointer none, .int .i64 4]) ∧ Below w.heap.size w w'
  map : ∀ (F : Nat → Prop) (w : World) (b : Nat) (d : DeskM), PD F w b d → Calls Try.prog 33 #[ptrV b] w fun e w' => Aftered (mapF d.goods) w e w'
  poll : ∀ (F : Nat → Prop) (w : World) (b : Nat) (d : DeskM) (n : Int), PD F w b d → d.jobs.length ≤ 1000000000000 → (∀ i, i < d.jobs.length → (d.jobs.getD i jobM0).told.length ≤ 1000) → Calls Try.prog 37 #[ptrV b, .int .i64 n] w fun e w' => PolledP d n w e w'
end Go.Proofs.Ytlbmcdoldnajoaa
