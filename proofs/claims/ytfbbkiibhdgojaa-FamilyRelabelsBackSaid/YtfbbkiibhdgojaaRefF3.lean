/- What Grid of the specification of layer 3 answers. -/
import Derived.Test.YtfbbkiibhdgojaaRefF0
namespace Go.Proofs.Ytfbbkiibhdgojaa
open Go.RowKit

def gridC (wd k u : Nat) : Bool := (u % wd == k % wd && (u / wd + 1 == k / wd || u / wd == k / wd + 1)) || (u / wd == k / wd && (u % wd + 1 == k % wd || u % wd == k % wd + 1))
def gridG (wd ht : Nat) : Gr := famG (wd * ht) fun k => selR (gridC wd) k (wd * ht)
def gridO (wd ht : Int) : Int ⊕ Gr := if inB wd 1 24 ∧ inB ht 1 24 ∧ wd * ht ≤ 24 then .inr (gridG wd.toNat ht.toNat) else .inl 2
theorem beq_t {a b : Int} (h : a = b) : (a == b) = true := by simp [h]
theorem beq_f {a b : Int} (h : a ≠ b) : (a == b) = false := by simp [h]
theorem gridC_t {wd k u : Nat} (h : gridC wd k u = true) : (u % wd = k % wd ∧ u / wd + 1 = k / wd) ∨ (u % wd = k % wd ∧ u / wd = k / wd + 1) ∨ (u % wd ≠ k % wd ∧ u / wd = k / wd ∧ u % wd + 1 = k % wd) ∨ (u % wd ≠ k % wd ∧ u / wd = k / wd ∧ u % wd = k % wd + 1) := by
  unfold gridC at h
  simp only [Bool.or_eq_true, Bool.and_eq_true, beq_iff_eq] at h
  omega
theorem gridC_f {wd k u : Nat} (h : gridC wd k u = false) : (u % wd = k % wd ∧ u / wd = k / wd) ∨ (u % wd = k % wd ∧ u / wd ≠ k / wd ∧ u / wd + 1 ≠ k / wd ∧ u / wd ≠ k / wd + 1) ∨ (u % wd ≠ k % wd ∧ u / wd ≠ k / wd) ∨ (u % wd ≠ k % wd ∧ u / wd = k / wd ∧ u % wd + 1 ≠ k % wd ∧ u % wd ≠ k % wd + 1) := by
  have h' : ¬ gridC wd k u = true := by rw [h]; simp
  unfold gridC at h'
  simp only [Bool.or_eq_true, Bool.and_eq_true, beq_iff_eq] at h'
  omega
end Go.Proofs.Ytfbbkiibhdgojaa
