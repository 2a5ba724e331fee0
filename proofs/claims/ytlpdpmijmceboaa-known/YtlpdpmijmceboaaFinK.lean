/- Known. -/
import Derived.Test.YtlpdpmijmceboaaRunP
import Derived.Test.YtlpdpmijmceboaaSaidK
namespace Go.Proofs.Ytlpdpmijmceboaa
theorem known_holds : Rows.KnownSaid := known_said run_ok
end Go.Proofs.Ytlpdpmijmceboaa
