/- Known. -/
import Derived.Test.YtlbmcdoldnajoaaRunP
import Derived.Test.YtlbmcdoldnajoaaSaidK
namespace Go.Proofs.Ytlbmcdoldnajoaa
theorem known_holds : Rows.KnownSaid := known_said run_ok
end Go.Proofs.Ytlbmcdoldnajoaa
