/- Runs. -/
import Derived.Test.YtlbmcdoldnajoaaRunP
import Derived.Test.YtlbmcdoldnajoaaSaid2
namespace Go.Proofs.Ytlbmcdoldnajoaa
theorem runs_holds : Rows.RunsSaid := runs_said run_ok
end Go.Proofs.Ytlbmcdoldnajoaa
