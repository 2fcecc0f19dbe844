/- The example of the laws of layer 5. -/
import Derived.Test.YtckofngclgkajaaTermApp
namespace Go.Proofs.Ytckofngclgkajaa
open Go.RowKit

def exT : List (Int × Int) := [(24, 0), (33, 0), (12, 0), (1, 1)]
theorem exT_fits : ∀ x ∈ exT, I64 x.1 ∧ I64 x.2 := by
  intro x hx
  unfold exT at hx
  unfold I64
  simp at hx
  rcases hx with rfl | rfl | rfl | rfl <;> decide
/-- what the specification says of the example -/
theorem exT_says : endF exT 0 = 4 ∧ opdF exT 1 1 = 3 ∧ depF exT = 3 ∧ nesF exT = 1 ∧ validE exT 1 = true := by
  refine ⟨?_, ?_, ?_, ?_, ?_⟩ <;> decide +kernel
end Go.Proofs.Ytckofngclgkajaa
