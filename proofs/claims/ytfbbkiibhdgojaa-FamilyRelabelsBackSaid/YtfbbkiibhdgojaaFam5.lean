/- What FromParents of package family answers. -/
import Derived.Test.YtfbbkiibhdgojaaFam4
namespace Go.Proofs.Ytfbbkiibhdgojaa
open Go.RowKit

end Go.Proofs.Ytfbbkiibhdgojaa
