/- The lines of a text, as package graphtext takes them; what is asked of its functions. -/
import Derived.Test.YtahhndhaciijpaaDoorParse0
namespace Go.Proofs.YtahhndhaciijpaaDoor
open Go.RowKit

/-- the variable of the library that its search for strings reads -/
def Gl (w : World) : Prop := ∃ m : Int, w.cell? ⟨1, 0, none⟩ = some (.int .i64 m)
theorem Gl.below {w w' : World} (h : Gl w) (hb : Below w.heap.size w w') : Gl w' := by
  obtain ⟨m, hm⟩ := h
  exact ⟨m, (hb.cell (p := ⟨_, 0, none⟩) (cell_lt hm)).trans hm⟩
/-- the lines of a text; a text without bytes counts as one empty line -/
def linesT (t : Bytes) : List Bytes := if t = [] then [[]] else linesB t
theorem linesT_read (t : Bytes) : textB t = readB 1 (linesT t) := by
  unfold textB linesT
  by_cases h : t = []
  · subst h
    rw [if_pos (by simp [linesB, splitB]), if_pos rfl]
    have : lineB [] = none := by simp [lineB, splitB]
    rw [readB, this]
  · rw [if_neg h, if_neg]
    intro e
    unfold linesB at e
    split at e
    · rename_i hl
      have h2 := join_split 10 t
      have h3 := split_ne 10 t
      have : (splitB 10 t).length = 1 := by
        have := congrArg List.length e
        have := List.length_pos_iff.2 h3
        simp at *
        omega
      obtain ⟨x, hx⟩ := List.length_eq_one_iff.1 this
      rw [hx] at hl h2
      simp at hl
      rw [hl] at h2
      simp [joinB] at h2
      exact h h2
    · exact split_ne 10 t e
/-- a call of a function that reads the lines of a text -/
def LinesSay (f : Nat) (ls : Bytes → List Bytes) : Prop := ∀ (s : ByteArray) (w : World), Gl w → s.size ≤ 1000000 → Calls Tryd.prog f #[.string s] w fun e w' => (∃ b cap, e = .returned (.slice (some ⟨b, 0, none⟩) (ls s.data.toList).length cap) ∧ w.heap.size ≤ b ∧ StrsAt w' (some ⟨b, 0, none⟩) (ls s.data.toList)) ∧ Below w.heap.size w w'
/-- a call of a function that reads a line -/
def NodeSay (f : Nat) : Prop := ∀ (l : Bytes) (w : World), Gl w → l.length ≤ 1000000 → Calls Tryd.prog f #[.string ⟨l.toArray⟩] w fun e w' => NodeSays w.heap.size w' l e ∧ Below w.heap.size w w'

theorem infoRow : (Tryd.prog.info? 39).map (fun i => (i.zero, i.size, i.bytes)) = some (some (.slice none 0 0), 1, 24) := by kernel_rfl

theorem lines_len (t : Bytes) : (linesB t).length ≤ t.length + 1 := by
  have := split_len 10 t
  unfold linesB
  split
  · rw [List.length_dropLast]; omega
  · exact this
theorem linesT_len (t : Bytes) : (linesT t).length ≤ t.length + 1 := by
  unfold linesT
  split
  · simp
  · exact lines_len t
theorem linesT_short {t x : Bytes} (h : x ∈ linesT t) : x.length ≤ t.length := by
  unfold linesT at h
  split at h
  · rw [List.mem_singleton] at h
    rw [h]; simp
  · unfold linesB at h
    split at h
    · exact split_short 10 t _ ((List.dropLast_prefix _).subset h)
    · exact split_short 10 t _ h

theorem cell_push' (w : World) (c : Array Value) (t : TypeId) (b i : Nat) : (w.alloc (.cells c t)).cell? ⟨b, i, none⟩ = if b = w.heap.size then c[i]? else w.cell? ⟨b, i, none⟩ := by
  split
  · rename_i h; rw [h]; exact World.cell?_alloc_new w c t i
  · rename_i h; exact World.cell?_alloc_old w _ _ h
theorem free_push' (w : World) (c : Array Value) (t : TypeId) (b i : Nat) : (w.alloc (.cells c t)).frozen? ⟨b, i, none⟩ = if b = w.heap.size then false else w.frozen? ⟨b, i, none⟩ := by
  split
  · rename_i h; rw [h]; exact World.frozen?_alloc_new w c t i
  · rename_i h; exact World.frozen?_alloc_old w _ _ h

end Go.Proofs.YtahhndhaciijpaaDoor
