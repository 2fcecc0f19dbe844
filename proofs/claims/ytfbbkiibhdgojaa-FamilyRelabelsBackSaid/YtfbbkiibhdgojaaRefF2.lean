/- What Complete of the specification of layer 3 answers. -/
import Derived.Test.YtfbbkiibhdgojaaRefF0
namespace Go.Proofs.Ytfbbkiibhdgojaa
open Go.RowKit

def compC (k u : Nat) : Bool := u != k
def compG (n : Nat) : Gr := famG n fun k => selR compC k n
def compO (n : Int) : Int ⊕ Gr := if inB n 1 24 then .inr (compG n.toNat) else .inl 2
end Go.Proofs.Ytfbbkiibhdgojaa
