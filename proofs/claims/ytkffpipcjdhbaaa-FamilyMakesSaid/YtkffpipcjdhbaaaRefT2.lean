/- What Split of the specification of layer 2 answers. -/
import Derived.Test.YtkffpipcjdhbaaaRefT1
namespace Go.Proofs.Ytkffpipcjdhbaaa
open Go.RowKit

def strV (l : Bytes) : Value := .string ⟨l.toArray⟩
theorem info9 : (Try.prog.info? 9).map (fun i => (i.zero, i.size, i.bytes)) = some (some (.string ByteArray.empty), 1, 16) := by kernel_rfl
theorem extract_eq (s : ByteArray) (a b : Nat) : Value.string (s.extract a b) = strV ((s.data.toList.drop a).take (b - a)) := by
  unfold strV
  congr 1
  apply ByteArray.ext
  rw [ByteArray.data_extract]
  apply Array.toList_inj.1
  rw [Array.toList_extract]
theorem strV_self (s : ByteArray) : Value.string s = strV s.data.toList := by
  unfold strV
  congr 1

/-- the row of the words ws, that the call owns -/
def WordsAt (base : Nat) (w : World) (v : Value) (ws : List Bytes) : Prop := w.ownsRow base 9 1 v ws.length (ws.map strV)
/-- ws and the rest from f on, of which the first k - f bytes have no c, are the words of l -/
def CutAt (c : UInt8) (l : Bytes) (ws : List Bytes) (f k : Nat) : Prop :=
  splitB c l = ws ++ splitB c (l.drop f) ∧ c ∉ (l.drop f).take (k - f) ∧ ws.length ≤ f ∧ f ≤ k ∧ k ≤ l.length
theorem CutAt.zero (c : UInt8) (l : Bytes) : CutAt c l [] 0 0 := ⟨rfl, by simp, Nat.le_refl _, Nat.le_refl _, Nat.zero_le _⟩
theorem CutAt.next {c : UInt8} {l : Bytes} {ws : List Bytes} {f k : Nat} (h : CutAt c l ws f k) (hk : k < l.length) (hx : l[k] ≠ c) : CutAt c l ws f (k + 1) := by
  obtain ⟨h1, h2, h3, h4, h5⟩ := h
  refine ⟨h1, ?_, h3, by omega, hk⟩
  have e : (l.drop f).take (k + 1 - f) = (l.drop f).take (k - f) ++ [l[k]] := by
    rw [show k + 1 - f = (k - f) + 1 by omega, List.take_succ_eq_append_getElem (by simp; omega)]
    simp [show f + (k - f) = k by omega]
  rw [e]
  simp [h2]
  exact fun e => hx e.symm
theorem CutAt.cut {c : UInt8} {l : Bytes} {ws : List Bytes} {f k : Nat} (h : CutAt c l ws f k) (hk : k < l.length) (hx : l[k] = c) : CutAt c l (ws ++ [(l.drop f).take (k - f)]) (k + 1) (k + 1) := by
  obtain ⟨h1, h2, h3, h4, h5⟩ := h
  have e : l.drop f = (l.drop f).take (k - f) ++ c :: l.drop (k + 1) := by
    have e1 := (List.take_append_drop (k - f) (l.drop f)).symm
    rw [List.drop_drop, show f + (k - f) = k by omega, List.drop_eq_getElem_cons hk, hx] at e1
    exact e1
  refine ⟨?_, by simp, by simp; omega, Nat.le_refl _, hk⟩
  have e2 : splitB c (l.drop f) = (l.drop f).take (k - f) :: splitB c (l.drop (k + 1)) := by
    have e3 := split_word_at h2 (l.drop (k + 1))
    rw [← e] at e3
    exact e3
  rw [h1, e2]
  simp
theorem CutAt.last {c : UInt8} {l : Bytes} {ws : List Bytes} {f : Nat} (h : CutAt c l ws f l.length) : splitB c l = ws ++ [l.drop f] := by
  obtain ⟨h1, h2, h3, h4, h5⟩ := h
  rw [h1, split_word]
  rw [List.take_of_length_le (by simp)] at h2
  exact h2

end Go.Proofs.Ytkffpipcjdhbaaa
