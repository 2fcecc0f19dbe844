/- What Lines of the specification of layer 2 answers. -/
import Derived.Test.YtahhndhaciijpaaDoorRefT2
namespace Go.Proofs.YtahhndhaciijpaaDoor
open Go.RowKit

def wordA (ws : List Bytes) (i : Nat) : Bytes := ws.getD i []
/-- a slice of the words ws, at a -/
def StrsAt (w : World) (a : Option Addr) (ws : List Bytes) : Prop := ws.length = 0 ∨ ∃ b o, a = some ⟨b, o, none⟩ ∧ b < w.heap.size ∧ ∀ i, i < ws.length → w.cell? ⟨b, o + i, none⟩ = some (strV (wordA ws i))
theorem StrsAt.below {w w' : World} {a : Option Addr} {ws : List Bytes} (h : StrsAt w a ws) (hb : Below w.heap.size w w') : StrsAt w' a ws := by
  rcases h with h | ⟨b, o, e, hlt, hc⟩
  · exact .inl h
  · exact .inr ⟨b, o, e, Nat.lt_of_lt_of_le hlt hb.size, fun i hi => (hb.cell (p := ⟨b, o + i, none⟩) hlt).trans (hc i hi)⟩
theorem StrsAt.init {w : World} {a : Option Addr} {ws : List Bytes} (h : StrsAt w a ws) : StrsAt w a ws.dropLast := by
  rcases h with h | ⟨b, o, e, hlt, hc⟩
  · exact .inl (by simp [h])
  · refine .inr ⟨b, o, e, hlt, fun i hi => ?_⟩
    rw [List.length_dropLast] at hi
    rw [hc i (by omega)]
    congr 2
    unfold wordA
    simp only [List.getD]
    rw [List.getElem?_dropLast, if_pos (by omega)]
theorem WordsAt.view {base : Nat} {w : World} {v : Value} {ws : List Bytes} (h : WordsAt base w v ws) (h0 : 0 < ws.length) : ∃ b cap, v = .slice (some ⟨b, 0, none⟩) ws.length cap ∧ ws.length ≤ cap ∧ cap ≤ maxLen ∧ base ≤ b ∧ StrsAt w (some ⟨b, 0, none⟩) ws := by
  have hc := h.2
  rcases hc with ⟨_, h1⟩ | ⟨g, cap, cur, hv, hb, hg, h1, h2, _⟩
  · omega
  · refine ⟨g, cap, hv, h1, h2, hb, .inr ⟨g, 0, rfl, (Array.getElem?_eq_some_iff.1 hg).1, fun i hi => ?_⟩⟩
    have := World.ownsRow.cells h (g := g) (by rw [hv]; rfl) i (strV (wordA ws i)) (by
      rw [List.getElem?_map, List.getElem?_eq_getElem hi]
      simp [wordA, List.getD, List.getElem?_eq_getElem hi])
    rw [add_none] at this
    exact this
theorem splitAll_any (s : ByteArray) (c : UInt8) (w : World) (hs : s.size ≤ 1000000) :
    Calls Tryd.prog 31 #[.string s, .int .u8 (c.toNat : Int)] w fun e w' => (∃ b cap, e = .returned (.slice (some ⟨b, 0, none⟩) (splitB c s.data.toList).length cap) ∧ (splitB c s.data.toList).length ≤ cap ∧ cap ≤ maxLen ∧ w.heap.size ≤ b ∧ StrsAt w' (some ⟨b, 0, none⟩) (splitB c s.data.toList)) ∧ Below w.heap.size w w' := by
  refine (split_any s c w hs).mono ?_
  rintro e w' ⟨⟨v, rfl, hW⟩, hb⟩
  obtain ⟨b, cap, rfl, h1, h2, h3, h4⟩ := hW.view (List.length_pos_iff.2 (split_ne _ _))
  exact ⟨⟨b, cap, rfl, h1, h2, h3, h4⟩, hb⟩
theorem split_len (c : UInt8) : ∀ l : Bytes, (splitB c l).length ≤ l.length + 1
  | [] => by simp [splitB]
  | x :: l => by
    have ih := split_len c l
    by_cases hx : x = c
    · rw [hx, split_at]; simp; omega
    · obtain ⟨w, ws, e⟩ := split_cons c l
      rw [split_other hx, e]
      rw [e] at ih
      simp [preHead] at ih ⊢
      omega
theorem word_empty {l : Bytes} (h : l ≠ []) : l.isEmpty = false := by
  cases l with
  | nil => exact absurd rfl h
  | cons a t => rfl

theorem lines_cases (l : Bytes) : (wordA (splitB 10 l) ((splitB 10 l).length - 1) = [] ∧ linesB l = (splitB 10 l).dropLast) ∨ (wordA (splitB 10 l) ((splitB 10 l).length - 1) ≠ [] ∧ linesB l = splitB 10 l) := by
  have hne := split_ne 10 l
  have hg : (splitB 10 l).getLast? = some (wordA (splitB 10 l) ((splitB 10 l).length - 1)) := by
    have h0 := List.length_pos_iff.2 hne
    rw [List.getLast?_eq_getElem?]
    simp [wordA, List.getD, List.getElem?_eq_getElem (show (splitB 10 l).length - 1 < (splitB 10 l).length by omega)]
  unfold linesB
  rw [hg]
  by_cases h : wordA (splitB 10 l) ((splitB 10 l).length - 1) = []
  · exact .inl ⟨h, by rw [h, if_pos rfl]⟩
  · exact .inr ⟨h, by rw [if_neg (fun e => h (by simpa using e))]⟩

set_option maxHeartbeats 1000000 in
theorem lines_any (s : ByteArray) (w : World) (hs : s.size ≤ 1000000) :
    Calls Tryd.prog 17 #[.string s] w fun e w' => (∃ a cap, e = .returned (.slice a (linesB s.data.toList).length cap) ∧ StrsAt w' a (linesB s.data.toList)) ∧ Below w.heap.size w w' := by
  have hlen : s.data.toList.length = s.size := by simp
  have hsl := split_len 10 s.data.toList
  rw [hlen] at hsl
  have hpos := List.length_pos_iff.2 (split_ne 10 s.data.toList)
  have Hcs := Lib.hid (lines_cases s.data.toList)
  clear hlen
  generalize hws : splitB 10 s.data.toList = ws at *
  have hki : (0 : Int) ≤ (ws.length : Int) - 1 := by omega
  have hki2 : (ws.length : Int) - 1 < ws.length := by omega
  have hkn : ((ws.length : Int) - 1).toNat = ws.length - 1 := by omega
  rcases Hcs.out with ⟨h1, h2⟩ | ⟨h1, h2⟩
  · have H2 := Lib.hid h2
    clear h2
    go_enter Tryd.func17, Tryd.ntmps17
    go_wp2_with (go_at_call 31; refine (splitAll_any s 10 _ hs).mono ?_; rw [hws]; rintro e w1 ⟨⟨b, cap, rfl, hcap, hcap2, hb, hS⟩, hb1⟩; have hcell : w1.cell? ⟨b, ws.length - 1, none⟩ = some (.string ⟨#[]⟩) := (by rcases hS with h | ⟨b', o, e, _, hc⟩; exact absurd h (by omega); (injection e with e; injection e with e1 e2; subst e1; subst e2; have := hc (ws.length - 1) (by omega); rw [h1, Nat.zero_add] at this; exact this)))
    go_ret
    exact ⟨⟨some ⟨b, 0, none⟩, cap, by rw [H2.out, List.length_dropLast]; rfl, by rw [H2.out]; exact hS.init⟩, hb1⟩
  · have H2 := Lib.hid h2
    clear h2
    have hne := word_empty h1
    go_enter Tryd.func17, Tryd.ntmps17
    go_wp2_with (go_at_call 31; refine (splitAll_any s 10 _ hs).mono ?_; rw [hws]; rintro e w1 ⟨⟨b, cap, rfl, hcap, hcap2, hb, hS⟩, hb1⟩; have hcell : w1.cell? ⟨b, ws.length - 1, none⟩ = some (.string ⟨(wordA ws (ws.length - 1)).toArray⟩) := (by rcases hS with h | ⟨b', o, e, _, hc⟩; exact absurd h (by omega); (injection e with e; injection e with e1 e2; subst e1; subst e2; have := hc (ws.length - 1) (by omega); rw [Nat.zero_add] at this; exact this)))
    go_ret
    exact ⟨⟨some ⟨b, 0, none⟩, cap, by rw [H2.out]; rfl, by rw [H2.out]; exact hS⟩, hb1⟩
end Go.Proofs.YtahhndhaciijpaaDoor
