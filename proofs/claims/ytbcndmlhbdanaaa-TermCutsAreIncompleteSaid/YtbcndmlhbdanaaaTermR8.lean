/- What LightExpr answers. -/
import Derived.Test.YtbcndmlhbdanaaaTermR7
import Derived.Test.YtbcndmlhbdanaaaTermTree
namespace Go.Proofs.Ytbcndmlhbdanaaa
open Go.RowKit

theorem lightE_any (a : Option Addr) (n c : Nat) (w : World) : Calls Try.prog 10 #[.slice a n c] w fun e w' => e = .returned (.bool (decide (n ≤ 250))) ∧ w' = w := by
  by_cases h : n ≤ 250
  all_goals
    have d1 : decide (n ≤ 250) = decide (n ≤ 250) := rfl
    conv at d1 => rhs; simp only [h, decide_true, decide_false]
    have d2 : decide ((n : Int) ≤ 250) = decide (n ≤ 250) := by rw [decide_eq_decide]; omega
    go_enter Try.func10, Try.ntmps10
    go_wp2
    go_ret
    exact ⟨ret_bool (by first | rfl | (rw [d1] <;> simp <;> omega)), rfl⟩
end Go.Proofs.Ytbcndmlhbdanaaa
