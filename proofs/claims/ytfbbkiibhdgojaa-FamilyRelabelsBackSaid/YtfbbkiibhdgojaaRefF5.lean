/- What Ring of the specification of layer 3 answers. -/
import Derived.Test.YtfbbkiibhdgojaaRefF0
namespace Go.Proofs.Ytfbbkiibhdgojaa
open Go.RowKit

def ringR (n k : Nat) : List (Int × Int) := [(((k : Int) + n - 1) % n, 1), (((k : Int) + 1) % n, 1)]
def ringO (n : Int) : Int ⊕ Gr := if inB n 3 24 then .inr (famG n.toNat (ringR n.toNat)) else .inl 2
theorem ringR_fit (n : Nat) (hn : n ≤ 24) : ∀ v, v < n → ∀ x ∈ ringR n v, I64 x.1 ∧ I64 x.2 := by
  intro v hv x hx
  have h1 := Int.emod_nonneg ((v : Int) + n - 1) (b := (n : Int)) (by omega)
  have h2 := Int.emod_lt_of_pos ((v : Int) + n - 1) (b := (n : Int)) (by omega)
  have h3 := Int.emod_nonneg ((v : Int) + 1) (b := (n : Int)) (by omega)
  have h4 := Int.emod_lt_of_pos ((v : Int) + 1) (b := (n : Int)) (by omega)
  have : x = (((v : Int) + n - 1) % n, 1) ∨ x = (((v : Int) + 1) % n, 1) := by simpa [ringR] using hx
  rcases this with rfl | rfl
  · exact ⟨⟨by show _ ≤ ((v : Int) + n - 1) % n; omega, by show ((v : Int) + n - 1) % n ≤ _; omega⟩, ⟨by simp, by simp⟩⟩
  · exact ⟨⟨by show _ ≤ ((v : Int) + 1) % n; omega, by show ((v : Int) + 1) % n ≤ _; omega⟩, ⟨by simp, by simp⟩⟩
end Go.Proofs.Ytfbbkiibhdgojaa
