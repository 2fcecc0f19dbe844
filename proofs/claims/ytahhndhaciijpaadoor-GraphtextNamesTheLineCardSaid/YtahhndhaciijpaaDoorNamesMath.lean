/- A line that is no node among the lines of a graph's text. -/
import Derived.Test.YtahhndhaciijpaaDoorLawT
namespace Go.Proofs.YtahhndhaciijpaaDoor
open Go.ChangeShapes Go.WideShapes Go.ChangeAt Go.RowKit

/-- a byte of the words that are tried -/
def isAM (b : UInt8) : Prop := 97 ≤ b.toNat ∧ b.toNat ≤ 109
theorem am_bad {u : Bytes} (h : ∀ b ∈ u, isAM b) : lineB u = none := by
  have hs : (32 : UInt8) ∉ u := fun hm => by have := (h _ hm).1; simp at this
  unfold lineB
  rw [split_word hs]
theorem am_line {u : Bytes} (h : ∀ b ∈ u, isAM b) : (10 : UInt8) ∉ u := fun hm => by have := (h _ hm).1; simp at this
/-- what the law adds in round j, and in the first i rounds -/
def addT (ls : List Bytes) (u : Bytes) (k j : Nat) : Bytes := (if j = k then u ++ [10] else []) ++ if j < ls.length then wordA ls j ++ [10] else []
def partT (ls : List Bytes) (u : Bytes) (k i : Nat) : Bytes := (List.range i).flatMap (addT ls u k)
theorem part_succ (ls : List Bytes) (u : Bytes) (k i : Nat) : partT ls u k (i + 1) = partT ls u k i ++ addT ls u k i := by
  unfold partT
  rw [List.range_succ, List.flatMap_append]
  simp
theorem part_mono (ls : List Bytes) (u : Bytes) (k : Nat) : ∀ (n i : Nat), i ≤ n → (partT ls u k i).length ≤ (partT ls u k n).length := by
  intro n
  induction n with
  | zero => intro i hi; rw [show i = 0 by omega]; exact Nat.le_refl _
  | succ n ih =>
    intro i hi
    by_cases h : i = n + 1
    · rw [h]; exact Nat.le_refl _
    · rw [part_succ, List.length_append]
      have := ih i (by omega)
      omega
theorem part_lines (ls : List Bytes) (u : Bytes) (k : Nat) : ∀ i, i ≤ ls.length → partT ls u k i = (if k < i then ls.take k ++ u :: (ls.take i).drop k else ls.take i).flatMap fun w => w ++ [10]
  | 0, _ => by simp [partT]
  | i + 1, hi => by
    have hlt : i < ls.length := by omega
    have hw : ls.take (i + 1) = ls.take i ++ [wordA ls i] := by
      rw [List.take_succ_eq_append_getElem hlt]
      simp [wordA, List.getD, List.getElem?_eq_getElem hlt]
    rw [part_succ, part_lines ls u k i (by omega)]
    unfold addT
    rw [if_pos hlt]
    by_cases h1 : k < i
    · rw [if_pos h1, if_neg (show ¬ i = k by omega), if_pos (show k < i + 1 by omega), hw, List.drop_append_of_le_length (by simp; omega)]
      simp
    · by_cases h2 : i = k
      · subst h2
        rw [if_neg h1, if_pos rfl, if_pos (show i < i + 1 by omega), hw, List.drop_append_of_le_length (by simp; omega)]
        simp
      · rw [if_neg h1, if_neg h2, if_neg (show ¬ k < i + 1 by omega), hw]
        simp
theorem part_all {ls : List Bytes} {u : Bytes} {k : Nat} (hk : k ≤ ls.length) : partT ls u k (ls.length + 1) = (ls.take k ++ u :: ls.drop k).flatMap fun w => w ++ [10] := by
  rw [part_succ, part_lines ls u k ls.length (Nat.le_refl _)]
  unfold addT
  rw [if_neg (Nat.lt_irrefl _)]
  by_cases h : k < ls.length
  · rw [if_pos h, if_neg (by omega), List.take_length]
    simp
  · have : k = ls.length := by omega
    subst this
    rw [if_neg h, if_pos rfl]
    simp
theorem part_len {ls : List Bytes} {u : Bytes} {k : Nat} (hk : k ≤ ls.length) : (partT ls u k (ls.length + 1)).length = u.length + 1 + (ls.flatMap fun w => w ++ [10]).length := by
  rw [part_all hk]
  have e : (ls.flatMap fun w => w ++ [10]) = ((ls.take k ++ ls.drop k).flatMap fun w => w ++ [(10 : UInt8)]) := by rw [List.take_append_drop]
  rw [e]
  simp only [List.flatMap_append, List.flatMap_cons, List.length_append, List.length_cons, List.length_nil]
  omega
/-- the lines of a graph's text -/
theorem format_lines {G : Gr} (hV : ValidG G) : linesB (formatS G) = (nodesOf G).map fmtLine ∧ formatS G = ((nodesOf G).map fmtLine).flatMap fun w => w ++ [10] := by
  have e : formatS G = ((nodesOf G).map fmtLine).flatMap fun w => w ++ [10] := by unfold formatS; rw [validB_mk hV, if_pos rfl, fmtText_map]
  refine ⟨?_, e⟩
  rw [e]
  exact lines_flat (fun w hw => by obtain ⟨x, _, rfl⟩ := List.mem_map.1 hw; exact fmtLine_free x)
theorem text_bad {G : Gr} (hV : ValidG G) {u : Bytes} (hu : ∀ b ∈ u, isAM b) {k : Nat} (hk : k ≤ (linesB (formatS G)).length) : textB (partT (linesB (formatS G)) u k ((linesB (formatS G)).length + 1)) = .inl (1 + k) := by
  rw [part_all hk]
  have hl := (format_lines hV).1
  have hfree : ∀ w ∈ (linesB (formatS G)).take k ++ u :: (linesB (formatS G)).drop k, (10 : UInt8) ∉ w := by
    intro w hw
    have : w ∈ linesB (formatS G) ∨ w = u := by
      rcases List.mem_append.1 hw with hw | hw
      · exact .inl (List.mem_of_mem_take hw)
      · rcases List.mem_cons.1 hw with rfl | hw
        · exact .inr rfl
        · exact .inl (List.mem_of_mem_drop hw)
    rcases this with hw | rfl
    · rw [hl] at hw
      obtain ⟨x, _, rfl⟩ := List.mem_map.1 hw
      exact fmtLine_free x
    · exact am_line hu
  unfold textB
  rw [lines_flat hfree, if_neg (by simp)]
  refine read_bad (fun l hm => ?_) hk (am_bad hu)
  rw [hl] at hm
  obtain ⟨x, hx, rfl⟩ := List.mem_map.1 hm
  exact ⟨x, line_fmt (small_nodes hV x hx)⟩
theorem formatS_lenN {G : Gr} (hV : ValidG G) : (formatS G).length ≤ 10000 := by
  have h1 := fmt_len hV G.ps.length (Nat.le_refl _)
  have h2 := hV.le
  have e : formatS G = fmtUpto G G.ps.length := by unfold formatS fmtUpto nodesOf; rw [validB_mk hV]; simp
  rw [e]
  omega
theorem parse_bad {t : Bytes} {k : Nat} (s : ByteArray) (w : World) (hg : Gl w) (hs : s.data.toList = t) (hl : t.length ≤ 16384) (ht : textB t = .inl k) :
    Calls Tryd.prog 10 #[.string s] w fun e w' => e = .returned (.tuple #[.agg #[.slice none 0 0, .slice none 0 0], .int .i64 k, .int .i64 4]) ∧ Below w.heap.size w w' := by
  refine (parseG_any s w hg).mono ?_
  rintro e w' ⟨h, hb⟩
  rw [hs] at h
  refine ⟨?_, hb⟩
  rcases h with ⟨h, _⟩ | ⟨_, j, h, rfl⟩ | ⟨_, xs, h, _⟩ | ⟨_, xs, h, _⟩
  · omega
  · rw [ht] at h
    obtain rfl : k = j := by simpa using h
    rfl
  · rw [ht] at h; cases h
  · rw [ht] at h; cases h
end Go.Proofs.YtahhndhaciijpaaDoor
