/-
  No cell of these rows narrows 'for every input' (looked for: loops, veiled, ifaces, maps, wideKeys, modest, calm, conditions, laid).
  DERIVED. THE GIVEN ROWS OF THIS SEAT. 10 by the template 'for every input the law returns true; each argument reads behind the call as it read before'; 0 by the template 'total and deterministic' (their statements: YtlbmcdoldnajoaaTotals.lean).
  GIVEN WITH THE SEED: the statements are not yours to turn. If you find one false, say at which input.
  Laid BY PROGRAM, IN A SANDBOX (cutbox-rows.mjs): the forced cells as the released guide's own fill.sh prints them over the translation 7933056daedd2890… (all of the seat's roots in one cut). By AI agents, Wed Nov 11 2026. No macro, syntax, notation, axiom, sorry.
-/
import Derived.Test.YtlbmcdoldnajoaaChecked
import GoSem.Claim
import GoSem.ClaimJoined
import GoSem.ClaimMapViews
import Derived.JoinedTies
import Derived.KernelRfl
namespace Go.Proofs.Ytlbmcdoldnajoaa
/- THE CELL 'sum', in the pinned program and in every row, IS THE sha256 OF THE DUMP (.gsa) THAT YtlbmcdoldnajoaaProg.lean LOADS. Nothing in Lean hashes anything: it is a label: what it is worth is what the hold of that sum in a sandbox is worth. -/
noncomputable def Try.pinned : Pinned := { name := "ytlbmcdoldnajoaa", sum := "7933056daedd289046c4c1ec053921b64cd67a7f61c81892a91db04ea4b01ce1", checked := Try.checked }
namespace Rows
def none {H : Type} : Left H := { results := [], args := [] }

/-- 'pivotlaw.Checks': WHATEVER THE INPUT: true; the input reads as it did. -/
def checksSpec : ChangeSpec := { name := "checks", fn := fun _ => fun
  | [d] => { results := [.lit (.bool true)], args := [d] }
  | _ => none }
def checksRow : OpenClaim := { program := "ytlbmcdoldnajoaa", sum := "7933056daedd289046c4c1ec053921b64cd67a7f61c81892a91db04ea4b01ce1", func := "pivot/pivotlaw.Checks", spec := "checks", apart := false }
def ChecksSaid : Prop := checksRow.holds Try.pinned (OpenSpec.ofChange checksSpec)

/-- ITS FALSE NEIGHBOUR: 'it returns false'. Refute it at one input. -/
def checksWrong : ChangeSpec := { name := "checks", fn := fun _ => fun
  | [d] => { results := [.lit (.bool false)], args := [d] }
  | _ => none }
def ChecksWrongFalsely : Prop := checksRow.holds Try.pinned (OpenSpec.ofChange checksWrong)

/-- 'pivotlaw.Runs': WHATEVER THE INPUT: true; the input reads as it did. -/
def runsSpec : ChangeSpec := { name := "runs", fn := fun _ => fun
  | [d1, d2, d3] => { results := [.lit (.bool true)], args := [d1, d2, d3] }
  | _ => none }
def runsRow : OpenClaim := { program := "ytlbmcdoldnajoaa", sum := "7933056daedd289046c4c1ec053921b64cd67a7f61c81892a91db04ea4b01ce1", func := "pivot/pivotlaw.Runs", spec := "runs", apart := false }
def RunsSaid : Prop := runsRow.holds Try.pinned (OpenSpec.ofChange runsSpec)

/-- ITS FALSE NEIGHBOUR: 'it returns false'. Refute it at one input. -/
def runsWrong : ChangeSpec := { name := "runs", fn := fun _ => fun
  | [d1, d2, d3] => { results := [.lit (.bool false)], args := [d1, d2, d3] }
  | _ => none }
def RunsWrongFalsely : Prop := runsRow.holds Try.pinned (OpenSpec.ofChange runsWrong)

/-- 'pivotlaw.Opens': WHATEVER THE INPUT: true; the input reads as it did. -/
def opensSpec : ChangeSpec := { name := "opens", fn := fun _ => fun
  | [d] => { results := [.lit (.bool true)], args := [d] }
  | _ => none }
def opensRow : OpenClaim := { program := "ytlbmcdoldnajoaa", sum := "7933056daedd289046c4c1ec053921b64cd67a7f61c81892a91db04ea4b01ce1", func := "pivot/pivotlaw.Opens", spec := "opens", apart := false }
def OpensSaid : Prop := opensRow.holds Try.pinned (OpenSpec.ofChange opensSpec)

/-- ITS FALSE NEIGHBOUR: 'it returns false'. Refute it at one input. -/
def opensWrong : ChangeSpec := { name := "opens", fn := fun _ => fun
  | [d] => { results := [.lit (.bool false)], args := [d] }
  | _ => none }
def OpensWrongFalsely : Prop := opensRow.holds Try.pinned (OpenSpec.ofChange opensWrong)

/-- 'pivotkeep.Known': WHATEVER THE INPUT: true; the input reads as it did. -/
def knownSpec : ChangeSpec := { name := "known", fn := fun _ => fun
  | [d] => { results := [.lit (.bool true)], args := [d] }
  | _ => none }
def knownRow : OpenClaim := { program := "ytlbmcdoldnajoaa", sum := "7933056daedd289046c4c1ec053921b64cd67a7f61c81892a91db04ea4b01ce1", func := "pivot/pivotkeep.Known", spec := "known", apart := false }
def KnownSaid : Prop := knownRow.holds Try.pinned (OpenSpec.ofChange knownSpec)

/-- ITS FALSE NEIGHBOUR: 'it returns false'. Refute it at one input. -/
def knownWrong : ChangeSpec := { name := "known", fn := fun _ => fun
  | [d] => { results := [.lit (.bool false)], args := [d] }
  | _ => none }
def KnownWrongFalsely : Prop := knownRow.holds Try.pinned (OpenSpec.ofChange knownWrong)

/-- 'pivotkeep.Framed': WHATEVER THE INPUT: true; the input reads as it did. -/
def framedSpec : ChangeSpec := { name := "framed", fn := fun _ => fun
  | [d1, d2, d3, d4] => { results := [.lit (.bool true)], args := [d1, d2, d3, d4] }
  | _ => none }
def framedRow : OpenClaim := { program := "ytlbmcdoldnajoaa", sum := "7933056daedd289046c4c1ec053921b64cd67a7f61c81892a91db04ea4b01ce1", func := "pivot/pivotkeep.Framed", spec := "framed", apart := false }
def FramedSaid : Prop := framedRow.holds Try.pinned (OpenSpec.ofChange framedSpec)

/-- ITS FALSE NEIGHBOUR: 'it returns false'. Refute it at one input. -/
def framedWrong : ChangeSpec := { name := "framed", fn := fun _ => fun
  | [d1, d2, d3, d4] => { results := [.lit (.bool false)], args := [d1, d2, d3, d4] }
  | _ => none }
def FramedWrongFalsely : Prop := framedRow.holds Try.pinned (OpenSpec.ofChange framedWrong)

/-- 'pivotkeep.Longer': WHATEVER THE INPUT: true; the input reads as it did. -/
def longerSpec : ChangeSpec := { name := "longer", fn := fun _ => fun
  | [d1, d2, d3, d4] => { results := [.lit (.bool true)], args := [d1, d2, d3, d4] }
  | _ => none }
def longerRow : OpenClaim := { program := "ytlbmcdoldnajoaa", sum := "7933056daedd289046c4c1ec053921b64cd67a7f61c81892a91db04ea4b01ce1", func := "pivot/pivotkeep.Longer", spec := "longer", apart := false }
def LongerSaid : Prop := longerRow.holds Try.pinned (OpenSpec.ofChange longerSpec)

/-- ITS FALSE NEIGHBOUR: 'it returns false'. Refute it at one input. -/
def longerWrong : ChangeSpec := { name := "longer", fn := fun _ => fun
  | [d1, d2, d3, d4] => { results := [.lit (.bool false)], args := [d1, d2, d3, d4] }
  | _ => none }
def LongerWrongFalsely : Prop := longerRow.holds Try.pinned (OpenSpec.ofChange longerWrong)

/-- 'pivotkeep.Alone': WHATEVER THE INPUT: true; the input reads as it did. -/
def aloneSpec : ChangeSpec := { name := "alone", fn := fun _ => fun
  | [d1, d2, d3] => { results := [.lit (.bool true)], args := [d1, d2, d3] }
  | _ => none }
def aloneRow : OpenClaim := { program := "ytlbmcdoldnajoaa", sum := "7933056daedd289046c4c1ec053921b64cd67a7f61c81892a91db04ea4b01ce1", func := "pivot/pivotkeep.Alone", spec := "alone", apart := false }
def AloneSaid : Prop := aloneRow.holds Try.pinned (OpenSpec.ofChange aloneSpec)

/-- ITS FALSE NEIGHBOUR: 'it returns false'. Refute it at one input. -/
def aloneWrong : ChangeSpec := { name := "alone", fn := fun _ => fun
  | [d1, d2, d3] => { results := [.lit (.bool false)], args := [d1, d2, d3] }
  | _ => none }
def AloneWrongFalsely : Prop := aloneRow.holds Try.pinned (OpenSpec.ofChange aloneWrong)

/-- 'pivotkeep.Apart': WHATEVER THE INPUT: true; the input reads as it did. -/
def apartSpec : ChangeSpec := { name := "apart", fn := fun _ => fun
  | [d1, d2, d3] => { results := [.lit (.bool true)], args := [d1, d2, d3] }
  | _ => none }
def apartRow : OpenClaim := { program := "ytlbmcdoldnajoaa", sum := "7933056daedd289046c4c1ec053921b64cd67a7f61c81892a91db04ea4b01ce1", func := "pivot/pivotkeep.Apart", spec := "apart", apart := false }
def ApartSaid : Prop := apartRow.holds Try.pinned (OpenSpec.ofChange apartSpec)

/-- ITS FALSE NEIGHBOUR: 'it returns false'. Refute it at one input. -/
def apartWrong : ChangeSpec := { name := "apart", fn := fun _ => fun
  | [d1, d2, d3] => { results := [.lit (.bool false)], args := [d1, d2, d3] }
  | _ => none }
def ApartWrongFalsely : Prop := apartRow.holds Try.pinned (OpenSpec.ofChange apartWrong)

/-- 'pivotkeep.Partners': WHATEVER THE INPUT: true; the input reads as it did. -/
def partnersSpec : ChangeSpec := { name := "partners", fn := fun _ => fun
  | [d1, d2] => { results := [.lit (.bool true)], args := [d1, d2] }
  | _ => none }
def partnersRow : OpenClaim := { program := "ytlbmcdoldnajoaa", sum := "7933056daedd289046c4c1ec053921b64cd67a7f61c81892a91db04ea4b01ce1", func := "pivot/pivotkeep.Partners", spec := "partners", apart := false }
def PartnersSaid : Prop := partnersRow.holds Try.pinned (OpenSpec.ofChange partnersSpec)

/-- ITS FALSE NEIGHBOUR: 'it returns false'. Refute it at one input. -/
def partnersWrong : ChangeSpec := { name := "partners", fn := fun _ => fun
  | [d1, d2] => { results := [.lit (.bool false)], args := [d1, d2] }
  | _ => none }
def PartnersWrongFalsely : Prop := partnersRow.holds Try.pinned (OpenSpec.ofChange partnersWrong)

/-- 'pivotkeep.Ends': WHATEVER THE INPUT: true; the input reads as it did. -/
def endsSpec : ChangeSpec := { name := "ends", fn := fun _ => fun
  | [d1, d2] => { results := [.lit (.bool true)], args := [d1, d2] }
  | _ => none }
def endsRow : OpenClaim := { program := "ytlbmcdoldnajoaa", sum := "7933056daedd289046c4c1ec053921b64cd67a7f61c81892a91db04ea4b01ce1", func := "pivot/pivotkeep.Ends", spec := "ends", apart := false }
def EndsSaid : Prop := endsRow.holds Try.pinned (OpenSpec.ofChange endsSpec)

/-- ITS FALSE NEIGHBOUR: 'it returns false'. Refute it at one input. -/
def endsWrong : ChangeSpec := { name := "ends", fn := fun _ => fun
  | [d1, d2] => { results := [.lit (.bool false)], args := [d1, d2] }
  | _ => none }
def EndsWrongFalsely : Prop := endsRow.holds Try.pinned (OpenSpec.ofChange endsWrong)

/- THE SECOND FORM. 'bulk': how many values and letters a reading holds, each counted each time it is reached (what is shared counts as often as it is met; a slice's spare places count too). A statement '..UptoSaid' is the law's where the arguments, and the package variables that the reading takes, are together of bulk at most 1048576: NARROWER than '..Said'. Prove '..Said' where nothing that the law and all that it calls make is longer than what came in: it says more and counts as full. Else prove '..UptoSaid'. A law counts once. -/
mutual
def uptoBulk {H : Type} : DataW H → Nat
  | .lit (.string bytes) => bytes.length + 1
  | .lit _ => 1
  | .nil => 1
  | .ptr d => uptoBulk d + 1
  | .slice elems spare => uptoBulkAll elems + uptoBulkAll spare + 1
  | .agg parts => uptoBulkAll parts + 1
  | .iface _ d => uptoBulk d + 1
  | .map entries => uptoBulkEntries entries + 1
  | .held _ => 1
def uptoBulkAll {H : Type} : List (DataW H) → Nat
  | [] => 0
  | d :: r => uptoBulk d + uptoBulkAll r
def uptoBulkEntries {H : Type} : List (Lit × DataW H) → Nat
  | [] => 0
  | x :: r => uptoBulkEntry x + uptoBulkEntries r
def uptoBulkEntry {H : Type} : Lit × DataW H → Nat
  | (.string bytes, d) => bytes.length + uptoBulk d + 1
  | (_, d) => uptoBulk d + 1
 end
def uptoSmall : (H : Type) → List (DataW H) → Bool := fun _ ds => decide (uptoBulkAll ds ≤ 1048576)
def OpenSpec.upto (s : _root_.Go.ChangeSpec) : _root_.Go.OpenSpec := { _root_.Go.OpenSpec.ofChange s with cond := some uptoSmall }

/-- 'pivotlaw.Checks', WHERE WHAT IT READS IS OF BULK AT MOST 1048576: true; the input reads as it did. -/
def checksUptoRow : OpenClaim := { program := "ytlbmcdoldnajoaa", sum := "7933056daedd289046c4c1ec053921b64cd67a7f61c81892a91db04ea4b01ce1", func := "pivot/pivotlaw.Checks", spec := "checks", apart := false, narrowed := true }
def ChecksUptoSaid : Prop := checksUptoRow.holds Try.pinned (OpenSpec.upto checksSpec)

/-- 'pivotlaw.Runs', WHERE WHAT IT READS IS OF BULK AT MOST 1048576: true; the input reads as it did. -/
def runsUptoRow : OpenClaim := { program := "ytlbmcdoldnajoaa", sum := "7933056daedd289046c4c1ec053921b64cd67a7f61c81892a91db04ea4b01ce1", func := "pivot/pivotlaw.Runs", spec := "runs", apart := false, narrowed := true }
def RunsUptoSaid : Prop := runsUptoRow.holds Try.pinned (OpenSpec.upto runsSpec)

/-- 'pivotlaw.Opens', WHERE WHAT IT READS IS OF BULK AT MOST 1048576: true; the input reads as it did. -/
def opensUptoRow : OpenClaim := { program := "ytlbmcdoldnajoaa", sum := "7933056daedd289046c4c1ec053921b64cd67a7f61c81892a91db04ea4b01ce1", func := "pivot/pivotlaw.Opens", spec := "opens", apart := false, narrowed := true }
def OpensUptoSaid : Prop := opensUptoRow.holds Try.pinned (OpenSpec.upto opensSpec)

/-- 'pivotkeep.Known', WHERE WHAT IT READS IS OF BULK AT MOST 1048576: true; the input reads as it did. -/
def knownUptoRow : OpenClaim := { program := "ytlbmcdoldnajoaa", sum := "7933056daedd289046c4c1ec053921b64cd67a7f61c81892a91db04ea4b01ce1", func := "pivot/pivotkeep.Known", spec := "known", apart := false, narrowed := true }
def KnownUptoSaid : Prop := knownUptoRow.holds Try.pinned (OpenSpec.upto knownSpec)

/-- 'pivotkeep.Framed', WHERE WHAT IT READS IS OF BULK AT MOST 1048576: true; the input reads as it did. -/
def framedUptoRow : OpenClaim := { program := "ytlbmcdoldnajoaa", sum := "7933056daedd289046c4c1ec053921b64cd67a7f61c81892a91db04ea4b01ce1", func := "pivot/pivotkeep.Framed", spec := "framed", apart := false, narrowed := true }
def FramedUptoSaid : Prop := framedUptoRow.holds Try.pinned (OpenSpec.upto framedSpec)

/-- 'pivotkeep.Longer', WHERE WHAT IT READS IS OF BULK AT MOST 1048576: true; the input reads as it did. -/
def longerUptoRow : OpenClaim := { program := "ytlbmcdoldnajoaa", sum := "7933056daedd289046c4c1ec053921b64cd67a7f61c81892a91db04ea4b01ce1", func := "pivot/pivotkeep.Longer", spec := "longer", apart := false, narrowed := true }
def LongerUptoSaid : Prop := longerUptoRow.holds Try.pinned (OpenSpec.upto longerSpec)

/-- 'pivotkeep.Alone', WHERE WHAT IT READS IS OF BULK AT MOST 1048576: true; the input reads as it did. -/
def aloneUptoRow : OpenClaim := { program := "ytlbmcdoldnajoaa", sum := "7933056daedd289046c4c1ec053921b64cd67a7f61c81892a91db04ea4b01ce1", func := "pivot/pivotkeep.Alone", spec := "alone", apart := false, narrowed := true }
def AloneUptoSaid : Prop := aloneUptoRow.holds Try.pinned (OpenSpec.upto aloneSpec)

/-- 'pivotkeep.Apart', WHERE WHAT IT READS IS OF BULK AT MOST 1048576: true; the input reads as it did. -/
def apartUptoRow : OpenClaim := { program := "ytlbmcdoldnajoaa", sum := "7933056daedd289046c4c1ec053921b64cd67a7f61c81892a91db04ea4b01ce1", func := "pivot/pivotkeep.Apart", spec := "apart", apart := false, narrowed := true }
def ApartUptoSaid : Prop := apartUptoRow.holds Try.pinned (OpenSpec.upto apartSpec)

/-- 'pivotkeep.Partners', WHERE WHAT IT READS IS OF BULK AT MOST 1048576: true; the input reads as it did. -/
def partnersUptoRow : OpenClaim := { program := "ytlbmcdoldnajoaa", sum := "7933056daedd289046c4c1ec053921b64cd67a7f61c81892a91db04ea4b01ce1", func := "pivot/pivotkeep.Partners", spec := "partners", apart := false, narrowed := true }
def PartnersUptoSaid : Prop := partnersUptoRow.holds Try.pinned (OpenSpec.upto partnersSpec)

/-- 'pivotkeep.Ends', WHERE WHAT IT READS IS OF BULK AT MOST 1048576: true; the input reads as it did. -/
def endsUptoRow : OpenClaim := { program := "ytlbmcdoldnajoaa", sum := "7933056daedd289046c4c1ec053921b64cd67a7f61c81892a91db04ea4b01ce1", func := "pivot/pivotkeep.Ends", spec := "ends", apart := false, narrowed := true }
def EndsUptoSaid : Prop := endsUptoRow.holds Try.pinned (OpenSpec.upto endsSpec)

end Rows
end Go.Proofs.Ytlbmcdoldnajoaa
