/- What FromParents of the specification of layer 3 answers. -/
import Derived.Test.YtfbbkiibhdgojaaRefF0
namespace Go.Proofs.Ytfbbkiibhdgojaa
open Go.RowKit

def parC (zs : List Int) (k u : Nat) : Bool := (decide (0 < k) && idA zs k == (u : Int)) || (decide (0 < u) && idA zs u == (k : Int))
def parOk (zs : List Int) : Prop := inB zs.length 1 24 = true ∧ idA zs 0 = -1 ∧ ∀ v, 1 ≤ v → v < zs.length → inB (idA zs v) 0 ((v : Int) - 1) = true
theorem beqT {a b : Int} (h : a = b) : (a == b) = true := by simp [h]
theorem beqF {a b : Int} (h : a ≠ b) : (a == b) = false := by simp [h]
noncomputable def parO (zs : List Int) : Int ⊕ Gr := open Classical in if parOk zs then .inr (famG zs.length fun k => selR (parC zs) k zs.length) else .inl 2
theorem parC_t {zs : List Int} {k u : Nat} (h : parC zs k u = true) : (0 < k ∧ idA zs k = u) ∨ (¬ 0 < k ∧ 0 < u ∧ idA zs u = k) ∨ (0 < k ∧ idA zs k ≠ u ∧ 0 < u ∧ idA zs u = k) := by
  unfold parC at h
  simp only [Bool.or_eq_true, Bool.and_eq_true, beq_iff_eq, decide_eq_true_eq] at h
  omega
theorem parC_f {zs : List Int} {k u : Nat} (h : parC zs k u = false) : (¬ 0 < k ∧ ¬ 0 < u) ∨ (0 < k ∧ idA zs k ≠ u ∧ ¬ 0 < u) ∨ (¬ 0 < k ∧ 0 < u ∧ idA zs u ≠ k) ∨ (0 < k ∧ idA zs k ≠ u ∧ 0 < u ∧ idA zs u ≠ k) := by
  have h' : ¬ parC zs k u = true := by rw [h]; simp
  unfold parC at h'
  simp only [Bool.or_eq_true, Bool.and_eq_true, beq_iff_eq, decide_eq_true_eq] at h'
  omega
end Go.Proofs.Ytfbbkiibhdgojaa
