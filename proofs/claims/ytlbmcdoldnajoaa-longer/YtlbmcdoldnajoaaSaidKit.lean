/- Small facts that the statements' texts share. -/
import Derived.Test.YtlbmcdoldnajoaaOpen
import Derived.SizedLaws
namespace Go.Proofs.Ytlbmcdoldnajoaa

theorem Try.own : ownKnob Try.prog.godebug = none := by kernel_rfl
theorem Try.laidOut : laidOutB Try.prog = true := by kernel_rfl
theorem Try.bytesStep : Try.prog.bytesOf 40 = 32 := by kernel_rfl

end Go.Proofs.Ytlbmcdoldnajoaa
