/- What Star of the specification of layer 3 answers. -/
import Derived.Test.YtfbbkiibhdgojaaRefF0
namespace Go.Proofs.Ytfbbkiibhdgojaa
open Go.RowKit

def starC (_ u : Nat) : Bool := u != 0
/-- the rows as they stand before round k; amid it -/
def starS (k v : Nat) : List (Int × Int) := if v = 0 then selR starC 0 k else if v < k then [(0, 1)] else []
def starH (k v : Nat) : List (Int × Int) := if v = 0 then selR starC 0 (k + 1) else starS k v
def starO (n : Int) : Int ⊕ Gr := if inB n 1 24 then .inr (famG n.toNat (starS n.toNat)) else .inl 2
theorem starS_one (v : Nat) : starS 1 v = [] := by
  unfold starS
  by_cases h : v = 0
  · rw [if_pos h]; rfl
  · rw [if_neg h, if_neg (by omega)]
theorem starS_fit (n : Nat) (hn : n ≤ 24) : ∀ v, v < n → ∀ x ∈ starS n v, I64 x.1 ∧ I64 x.2 := by
  intro v hv x hx
  unfold starS at hx
  by_cases h : v = 0
  · rw [if_pos h] at hx
    exact selR_fit starC n hn 0 (by omega) x hx
  · rw [if_neg h, if_pos hv] at hx
    obtain rfl : x = (0, 1) := by simpa using hx
    exact ⟨⟨by simp, by simp⟩, ⟨by simp, by simp⟩⟩
end Go.Proofs.Ytfbbkiibhdgojaa
