/- The example of the laws of layer 5. -/
import Derived.Test.YtbcndmlhbdanaaaTermApp
namespace Go.Proofs.Ytbcndmlhbdanaaa
open Go.RowKit

def exT : List (Int × Int) := [(24, 0), (33, 0), (12, 0), (1, 1)]
theorem example_any (w : World) : Calls Try.prog 32 #[] w fun e w' => (∃ g, e = .returned (.slice (some ⟨g, 0, none⟩) 4 4) ∧ w.heap.size ≤ g ∧ OwnT w.heap.size w' (.slice (some ⟨g, 0, none⟩) 4 4) exT) ∧ Below w.heap.size w w' := by
  have hO := OwnT.lit w w.heap.size exT #[.int .i64 24, .int .i64 0, .int .i64 33, .int .i64 0, .int .i64 12, .int .i64 0, .int .i64 1, .int .i64 1] 4 rfl rfl (Nat.le_refl _) (by unfold exT maxLen; simp)
  have hB := (Below.refl w.heap.size w).alloc (Nat.le_refl _) (.cells #[.int .i64 24, .int .i64 0, .int .i64 33, .int .i64 0, .int .i64 12, .int .i64 0, .int .i64 1, .int .i64 1] 41)
  have HO := Lib.hid hO
  have HB := Lib.hid hB
  clear hO hB
  go_enter Try.func32, Try.ntmps32
  go_wp2
  go_ret
  exact ⟨⟨_, rfl, Nat.le_refl _, by first | exact HO.out | exact HO.out.drew 1⟩, by first | exact HB.out | exact belDraws HB.out 1⟩
theorem exT_fits : ∀ x ∈ exT, I64 x.1 ∧ I64 x.2 := by
  intro x hx
  unfold exT at hx
  unfold I64
  simp at hx
  rcases hx with rfl | rfl | rfl | rfl <;> decide
/-- what the specification says of the example -/
theorem exT_says : endF exT 0 = 4 ∧ opdF exT 1 1 = 3 ∧ depF exT = 3 ∧ nesF exT = 1 ∧ validE exT 1 = true := by
  refine ⟨?_, ?_, ?_, ?_, ?_⟩ <;> decide +kernel
end Go.Proofs.Ytbcndmlhbdanaaa
