/- What awake of layer 5's laws answers. -/
import Derived.Test.YtckofngclgkajaaTermP4
import Derived.Test.YtckofngclgkajaaTermP5
import Derived.Test.YtckofngclgkajaaTermEx
namespace Go.Proofs.Ytckofngclgkajaa
open Go.RowKit

end Go.Proofs.Ytckofngclgkajaa
