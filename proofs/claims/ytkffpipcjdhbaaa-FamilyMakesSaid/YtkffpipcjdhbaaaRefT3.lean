/- What Lines of the specification of layer 2 answers. -/
import Derived.Test.YtkffpipcjdhbaaaRefT2
namespace Go.Proofs.Ytkffpipcjdhbaaa
open Go.RowKit

def wordA (ws : List Bytes) (i : Nat) : Bytes := ws.getD i []
/-- a slice of the words ws, at a -/
def StrsAt (w : World) (a : Option Addr) (ws : List Bytes) : Prop := ws.length = 0 ∨ ∃ b o, a = some ⟨b, o, none⟩ ∧ b < w.heap.size ∧ ∀ i, i < ws.length → w.cell? ⟨b, o + i, none⟩ = some (strV (wordA ws i))
theorem StrsAt.below {w w' : World} {a : Option Addr} {ws : List Bytes} (h : StrsAt w a ws) (hb : Below w.heap.size w w') : StrsAt w' a ws := by
  rcases h with h | ⟨b, o, e, hlt, hc⟩
  · exact .inl h
  · exact .inr ⟨b, o, e, Nat.lt_of_lt_of_le hlt hb.size, fun i hi => (hb.cell (p := ⟨b, o + i, none⟩) hlt).trans (hc i hi)⟩
theorem StrsAt.init {w : World} {a : Option Addr} {ws : List Bytes} (h : StrsAt w a ws) : StrsAt w a ws.dropLast := by
  rcases h with h | ⟨b, o, e, hlt, hc⟩
  · exact .inl (by simp [h])
  · refine .inr ⟨b, o, e, hlt, fun i hi => ?_⟩
    rw [List.length_dropLast] at hi
    rw [hc i (by omega)]
    congr 2
    unfold wordA
    simp only [List.getD]
    rw [List.getElem?_dropLast, if_pos (by omega)]
theorem WordsAt.view {base : Nat} {w : World} {v : Value} {ws : List Bytes} (h : WordsAt base w v ws) (h0 : 0 < ws.length) : ∃ b cap, v = .slice (some ⟨b, 0, none⟩) ws.length cap ∧ ws.length ≤ cap ∧ cap ≤ maxLen ∧ base ≤ b ∧ StrsAt w (some ⟨b, 0, none⟩) ws := by
  have hc := h.2
  rcases hc with ⟨_, h1⟩ | ⟨g, cap, cur, hv, hb, hg, h1, h2, _⟩
  · omega
  · refine ⟨g, cap, hv, h1, h2, hb, .inr ⟨g, 0, rfl, (Array.getElem?_eq_some_iff.1 hg).1, fun i hi => ?_⟩⟩
    have := World.ownsRow.cells h (g := g) (by rw [hv]; rfl) i (strV (wordA ws i)) (by
      rw [List.getElem?_map, List.getElem?_eq_getElem hi]
      simp [wordA, List.getD, List.getElem?_eq_getElem hi])
    rw [add_none] at this
    exact this
theorem split_len (c : UInt8) : ∀ l : Bytes, (splitB c l).length ≤ l.length + 1
  | [] => by simp [splitB]
  | x :: l => by
    have ih := split_len c l
    by_cases hx : x = c
    · rw [hx, split_at]; simp; omega
    · obtain ⟨w, ws, e⟩ := split_cons c l
      rw [split_other hx, e]
      rw [e] at ih
      simp [preHead] at ih ⊢
      omega
theorem word_empty {l : Bytes} (h : l ≠ []) : l.isEmpty = false := by
  cases l with
  | nil => exact absurd rfl h
  | cons a t => rfl

theorem lines_cases (l : Bytes) : (wordA (splitB 10 l) ((splitB 10 l).length - 1) = [] ∧ linesB l = (splitB 10 l).dropLast) ∨ (wordA (splitB 10 l) ((splitB 10 l).length - 1) ≠ [] ∧ linesB l = splitB 10 l) := by
  have hne := split_ne 10 l
  have hg : (splitB 10 l).getLast? = some (wordA (splitB 10 l) ((splitB 10 l).length - 1)) := by
    have h0 := List.length_pos_iff.2 hne
    rw [List.getLast?_eq_getElem?]
    simp [wordA, List.getD, List.getElem?_eq_getElem (show (splitB 10 l).length - 1 < (splitB 10 l).length by omega)]
  unfold linesB
  rw [hg]
  by_cases h : wordA (splitB 10 l) ((splitB 10 l).length - 1) = []
  · exact .inl ⟨h, by rw [h, if_pos rfl]⟩
  · exact .inr ⟨h, by rw [if_neg (fun e => h (by simpa using e))]⟩

end Go.Proofs.Ytkffpipcjdhbaaa
