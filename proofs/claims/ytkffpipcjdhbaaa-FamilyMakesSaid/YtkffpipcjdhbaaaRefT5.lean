/- What Decimal of the specification of layer 2 answers. -/
import Derived.Test.YtkffpipcjdhbaaaRefT4
namespace Go.Proofs.Ytkffpipcjdhbaaa
open Go.RowKit

theorem ret_str {a b : Bytes} (h : a = b) : Ending.returned (.string ⟨a.toArray⟩) = .returned (.string ⟨b.toArray⟩) := by rw [h]
theorem dec_le {n : Nat} (h : n < 1000000) : (decB n).length ≤ 6 := (dec_ok h).2.1

end Go.Proofs.Ytkffpipcjdhbaaa
