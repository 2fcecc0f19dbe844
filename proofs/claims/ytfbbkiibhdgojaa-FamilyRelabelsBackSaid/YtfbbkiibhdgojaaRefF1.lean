/- What Path of the specification of layer 3 answers. -/
import Derived.Test.YtfbbkiibhdgojaaRefF0
namespace Go.Proofs.Ytfbbkiibhdgojaa
open Go.RowKit

def pathR (n v : Nat) : List (Int × Int) := (if 0 < v then [((v : Int) - 1, 1)] else []) ++ if v + 1 < n then [((v : Int) + 1, 1)] else []
theorem pathR_fit (n : Nat) (hn : n ≤ 24) : ∀ v, v < n → ∀ x ∈ pathR n v, I64 x.1 ∧ I64 x.2 := by
  intro v hv x hx
  unfold pathR at hx
  rcases List.mem_append.1 hx with hx | hx
  · split at hx
    · obtain rfl : x = _ := by simpa using hx
      exact ⟨⟨by simp; omega, by simp; omega⟩, ⟨by simp, by simp⟩⟩
    · simp at hx
  · split at hx
    · obtain rfl : x = _ := by simpa using hx
      exact ⟨⟨by simp; omega, by simp; omega⟩, ⟨by simp, by simp⟩⟩
    · simp at hx
def pathO (n : Int) : Int ⊕ Gr := if inB n 1 24 then .inr (famG n.toNat (pathR n.toNat)) else .inl 2

end Go.Proofs.Ytfbbkiibhdgojaa
