/- What the library's functions that package graphtext calls say of lists of bytes: Split, Cut, TrimSuffix. No program in sight. -/
import Derived.Test.YtahhndhaciijpaaDoorParseG0
import Derived.Lib.SplitLaws
namespace Go.Proofs.YtahhndhaciijpaaDoor
open Go.RowKit

theorem index_one (c : UInt8) : ∀ l : Bytes, (c ∉ l ∧ Lib.index l [c] = -1) ∨ ∃ p q, l = p ++ c :: q ∧ c ∉ p ∧ Lib.index l [c] = (p.length : Int)
  | [] => .inl ⟨by simp, by simp [Lib.index]⟩
  | b :: l => by
    by_cases h : b = c
    · subst h
      exact .inr ⟨[], l, rfl, by simp, by simp [Lib.index, List.isPrefixOf]⟩
    · have hp : ([c] : List UInt8).isPrefixOf (b :: l) = false := by simp [List.isPrefixOf, Ne.symm h]
      have hix : Lib.index (b :: l) [c] = if Lib.index l [c] == -1 then -1 else Lib.index l [c] + 1 := by rw [Lib.index, hp]; simp
      rcases index_one c l with ⟨h1, h2⟩ | ⟨p, q, h1, h2, h3⟩
      · left
        refine ⟨by simp [h1, Ne.symm h], ?_⟩
        rw [hix, h2]; rfl
      · right
        refine ⟨b :: p, q, by rw [h1]; rfl, by simp [h2, Ne.symm h], ?_⟩
        rw [hix, h3, if_neg (by simp)]
        simp
theorem split_lib (c : UInt8) : ∀ (n : Nat) (l : Bytes), l.length ≤ n → Lib.splitK [c] 0 (Lib.count l [c]) l = splitB c l := by
  intro n
  induction n with
  | zero =>
    intro l hl
    have : l = [] := List.length_eq_zero_iff.1 (by omega)
    subst this
    rw [Lib.count_one]
    rfl
  | succ n ih =>
    intro l hl
    rcases index_one c l with ⟨h1, h2⟩ | ⟨p, q, h1, h2, h3⟩
    · rw [Lib.count_miss h2, split_word h1]
      rfl
    · rw [Lib.count_hit (by simp) h3]
      have hd : l.drop (p.length + [c].length) = q := by rw [h1]; simp
      rw [hd, Nat.add_comm, Lib.splitK, h3, if_neg (by simp)]
      have ht : l.take (((p.length : Nat) : Int).toNat + 0) = p := by rw [h1]; simp
      have hd2 : l.drop (((p.length : Nat) : Int).toNat + [c].length) = q := by rw [h1]; simp
      rw [ht, hd2, ih q (by rw [h1] at hl; simp at hl; omega), h1, split_word_at h2]
theorem cut_lib (c : UInt8) (l : Bytes) : (c ∉ l ∧ Lib.cut l [c] = (l, [], false)) ∨ ∃ p q, l = p ++ c :: q ∧ c ∉ p ∧ Lib.cut l [c] = (p, q, true) := by
  rcases index_one c l with ⟨h1, h2⟩ | ⟨p, q, h1, h2, h3⟩
  · exact .inl ⟨h1, by unfold Lib.cut; rw [h2, if_neg (by decide)]⟩
  · refine .inr ⟨p, q, h1, h2, ?_⟩
    unfold Lib.cut
    rw [h3, if_pos (by omega), h1]
    simp
/-- a port, as it is read by cutting at the first slash -/
theorem port_cut (x : Bytes) : portB x = match numB (Lib.cut x [47]).1, numB (Lib.cut x [47]).2.1 with
    | some t, some w => some (t, w)
    | _, _ => none := by
  rcases cut_lib 47 x with ⟨h1, h2⟩ | ⟨p, q, h1, h2, h3⟩
  · rw [h2]
    have e : numB ([] : Bytes) = none := numB_none fun h => by have := h.1; simp at this
    simp only [e]
    unfold portB
    rw [split_word h1]
    cases numB x <;> rfl
  · rw [h3]
    unfold portB
    rw [h1, split_word_at h2]
    by_cases hq : (47 : UInt8) ∈ q
    · have hn : numB q = none := numB_none fun h => (dig_ne (h.2.2.2 _ hq)).2.2 rfl
      simp only [hn]
      have hs : ∃ a b r, splitB 47 q = a :: b :: r := by
        obtain ⟨w, ws, e⟩ := split_cons 47 q
        cases ws with
        | nil =>
          have := join_split 47 q
          rw [e] at this
          have hw : (47 : UInt8) ∉ w := split_no (l := q) (by rw [e]; simp)
          simp only [joinB] at this
          rw [this] at hw
          exact absurd hq hw
        | cons b r => exact ⟨w, b, r, e⟩
      obtain ⟨a, b, r, e⟩ := hs
      rw [e]
      cases numB p <;> rfl
    · rw [split_word hq]
      rfl
/-- the lines of a text, as they are read by trimming the last line feed -/
theorem lines_trim (t : Bytes) : splitB 10 (Lib.trimSuffix t [10]) = linesT t := by
  unfold linesT
  by_cases h0 : t = []
  · rw [if_pos h0, h0]
    rfl
  · rw [if_neg h0]
    unfold Lib.trimSuffix Lib.hasSuffix
    by_cases hs : [10].isSuffixOf t = true
    · rw [if_pos hs]
      obtain ⟨p, hp⟩ := List.isSuffixOf_iff_suffix.1 hs
      have e : t.take (t.length - [10].length) = p := by rw [← hp]; simp
      have key : ∀ p : Bytes, splitB 10 (p ++ [10]) = splitB 10 p ++ [[]] := by
        intro p
        induction p with
        | nil => rfl
        | cons x p ih =>
          by_cases hx : x = 10
          · rw [List.cons_append, hx, split_at, split_at, ih]; rfl
          · rw [List.cons_append, split_other hx, split_other hx, ih]
            obtain ⟨w, ws, e⟩ := split_cons 10 p
            rw [e]; rfl
      have e2 : splitB 10 (t.take (t.length - [(10 : UInt8)].length)) = splitB 10 p := congrArg _ e
      refine e2.trans ?_
      rw [← hp]
      unfold linesB
      rw [key]
      simp
    · rw [if_neg hs]
      unfold linesB
      rw [if_neg]
      intro hl
      have h2 := join_split 10 t
      have h3 := split_ne 10 t
      obtain ⟨ws, hws⟩ : ∃ ws, splitB 10 t = ws ++ [[]] := by
        refine ⟨(splitB 10 t).dropLast, ?_⟩
        rw [List.getLast?_eq_some_getLast h3] at hl
        have h4 : (splitB 10 t).getLast h3 = [] := by simpa using hl
        rw [← h4, List.dropLast_concat_getLast h3]
      rw [hws] at h2
      have key : ∀ {ws : List Bytes}, ws ≠ [] → joinB 10 (ws ++ [[]]) = joinB 10 ws ++ [10] := by
        intro ws
        induction ws with
        | nil => intro h; exact absurd rfl h
        | cons w ws ih =>
          intro _
          cases ws with
          | nil => simp [joinB]
          | cons v vs =>
            have := ih (by simp)
            simp only [List.cons_append, joinB] at this ⊢
            rw [this]
            simp
      by_cases hw : ws = []
      · rw [hw] at h2
        simp [joinB] at h2
        exact h0 h2
      · rw [key hw] at h2
        exact hs (List.isSuffixOf_iff_suffix.2 ⟨_, h2⟩)
end Go.Proofs.YtahhndhaciijpaaDoor
