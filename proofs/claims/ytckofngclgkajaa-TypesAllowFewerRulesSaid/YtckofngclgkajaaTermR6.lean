/- What Reads of the specification of layer 5 answers. -/
import Derived.Test.YtckofngclgkajaaTermR5
namespace Go.Proofs.Ytckofngclgkajaa
open Go.RowKit

/-- the arguments of an operation, as a set -/
def maskG (op : Int) : List (Int × Int) → Nat → Nat
  | [], S => S
  | t :: ts, S => maskG op ts (if t.1 = op then S ||| 2 ^ t.2.toNat else S)
def readsF (op : Int) (xs : List (Int × Int)) : Nat := if validE xs 6 = true then maskG op xs 0 else 0
theorem valid_arg {xs : List (Int × Int)} {vars : Int} (h : validE xs vars = true) {i : Nat} (hi : i < xs.length) : argB (toA xs i, wtA xs i) vars = true := by
  unfold validE at h
  rw [Bool.and_eq_true] at h
  have h2 := h.2
  rw [List.all_eq_true] at h2
  have := h2 xs[i] (List.getElem_mem hi)
  simpa [toA, wtA, hi] using this
theorem arg_var {op x vars : Int} (h : argB (op, x) vars = true) (ho : op = 5 ∨ op = 12) : 0 ≤ x ∧ x < vars := by
  unfold argB at h
  dsimp only at h
  rw [if_neg (by omega), if_pos ho] at h
  simpa using h
theorem valid_len {xs : List (Int × Int)} {vars : Int} (h : validE xs vars = true) : xs.length ≤ 200 := by
  unfold validE at h
  simp only [Bool.and_eq_true, decide_eq_true_eq] at h
  exact h.1.1.1.1

end Go.Proofs.Ytckofngclgkajaa
