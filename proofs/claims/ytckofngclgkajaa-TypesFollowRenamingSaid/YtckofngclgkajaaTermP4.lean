/- What Reads of the program answers. -/
import Derived.Test.YtckofngclgkajaaTermP3
namespace Go.Proofs.Ytckofngclgkajaa
open Go.RowKit

end Go.Proofs.Ytckofngclgkajaa
