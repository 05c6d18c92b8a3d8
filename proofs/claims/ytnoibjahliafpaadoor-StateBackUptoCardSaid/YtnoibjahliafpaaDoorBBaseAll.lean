/- What StateBack leans on. -/
import Derived.Test.YtnoibjahliafpaaDoorM39
import Derived.Test.YtnoibjahliafpaaDoorM36
import Derived.Test.YtnoibjahliafpaaDoorM40
set_option linter.unusedVariables false
set_option linter.unusedSimpArgs false
namespace Go.Proofs.YtnoibjahliafpaaDoor
end Go.Proofs.YtnoibjahliafpaaDoor
