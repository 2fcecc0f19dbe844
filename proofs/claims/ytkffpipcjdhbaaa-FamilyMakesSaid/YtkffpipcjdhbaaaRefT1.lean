/- What Number of the specification of layer 2 answers. -/
import Derived.Test.YtkffpipcjdhbaaaText
import Derived.Test.YtkffpipcjdhbaaaQueue
namespace Go.Proofs.Ytkffpipcjdhbaaa
open Go.RowKit

noncomputable def numI (l : Bytes) : Int := match numB l with
  | some n => n
  | none => 0
noncomputable def numK (l : Bytes) : Bool := (numB l).isSome
theorem numI_ok {l : Bytes} (h : NumOk l) : numI l = valB l ∧ numK l = true := by unfold numI numK; rw [numB_mk h]; exact ⟨rfl, rfl⟩
theorem numI_not {l : Bytes} (h : ¬ NumOk l) : numI l = 0 ∧ numK l = false := by unfold numI numK; rw [numB_none h]; exact ⟨rfl, rfl⟩
theorem ret_ib {a c : Int} {b d : Bool} (h : a = c ∧ b = d) : Ending.returned (.tuple #[.int .i64 a, .bool b]) = .returned (.tuple #[.int .i64 c, .bool d]) := by rw [h.1, h.2]
theorem take_snoc (s : ByteArray) (k : Nat) (h : k < s.size) : s.data.toList.take (k + 1) = s.data.toList.take k ++ [s[k]] := by
  rw [List.take_succ_eq_append_getElem (by simpa using h)]; rfl
theorem mem_at (s : ByteArray) (k : Nat) (h : k < s.size) : s[k] ∈ s.data.toList := by
  have : s[k] = s.data.toList[k]'(by simpa using h) := rfl
  rw [this]
  exact List.getElem_mem _
theorem val_lt : ∀ (k : Nat) (l : Bytes), l.length ≤ k → (∀ b ∈ l, isDig b) → valB l < 10 ^ k := by
  intro k
  induction k with
  | zero =>
    intro l hl _
    have : l = [] := List.length_eq_zero_iff.1 (by omega)
    rw [this]
    simp [valB]
  | succ k ih =>
    intro l hl hd
    by_cases hne : l = []
    · rw [hne]; simp [valB]; exact Nat.pow_pos (by decide)
    · rw [← List.dropLast_concat_getLast hne, val_snoc]
      have h5 := ih l.dropLast (by simp; omega) (fun b hb => hd b ((List.dropLast_prefix l).subset hb))
      have h6 := hd _ (List.getLast_mem hne)
      unfold isDig at h6
      rw [Nat.pow_succ]
      omega

end Go.Proofs.Ytkffpipcjdhbaaa
