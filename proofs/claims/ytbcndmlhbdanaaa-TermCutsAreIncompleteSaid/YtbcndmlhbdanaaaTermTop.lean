/- Expressions that are read from the last term to the first one: the stack of what has been found. No program in it. -/
import Derived.Test.YtbcndmlhbdanaaaTermTree
namespace Go.Proofs.Ytbcndmlhbdanaaa

/-- what a term adds: one, or one for an aggregate -/
def addN (b : Bool) (op : Int) : Nat := if b = true then 1 else aggN op
theorem addN_le (b : Bool) (op : Int) : addN b op ≤ 1 := by
  unfold addN aggN
  repeat' split
  all_goals omega
/-- the greatest of some numbers, the last one first -/
def mxL (l : List Nat) : Nat := l.reverse.foldl max 0
theorem mxL_nil : mxL [] = 0 := rfl
theorem mxL_cons (v : Nat) (l : List Nat) : mxL (v :: l) = max (mxL l) v := by simp [mxL]
theorem mxL_le {l : List Nat} {b : Nat} (h : ∀ v ∈ l, v ≤ b) : mxL l ≤ b := by
  induction l with
  | nil => rw [mxL_nil]; omega
  | cons v l ih =>
    rw [mxL_cons]
    have h1 := ih (fun u hu => h u (by simp [hu]))
    have h2 := h v (by simp)
    omega
theorem mxL_app (a b : List Nat) : mxL (a ++ b) = max (mxL a) (mxL b) := by
  induction a with
  | nil => simp [mxL_nil]
  | cons v a ih => rw [List.cons_append, mxL_cons, mxL_cons, ih]; omega
/-- what stands on the stack, the top first, when these terms have been read -/
def topF (b : Bool) : List (Int × Int) → List Nat
  | [] => []
  | t :: ts => (mxL ((topF b ts).take (arF t.1).toNat) + addN b t.1) :: (topF b ts).drop (arF t.1).toNat
theorem topF_len (b : Bool) : ∀ ts : List (Int × Int), (topF b ts).length ≤ ts.length
  | [] => by simp [topF]
  | t :: ts => by
    have := topF_len b ts
    simp only [topF, List.length_cons, List.length_drop]
    omega
theorem topF_le (b : Bool) : ∀ (ts : List (Int × Int)) (v : Nat), v ∈ topF b ts → v ≤ ts.length
  | [], v, h => by simp [topF] at h
  | t :: ts, v, h => by
    unfold topF at h
    rcases List.mem_cons.1 h with h | h
    · have h1 : mxL ((topF b ts).take (arF t.1).toNat) ≤ ts.length := mxL_le fun u hu => topF_le b ts u (List.mem_of_mem_take hu)
      have h2 := addN_le b t.1
      rw [List.length_cons]
      omega
    · have := topF_le b ts v (List.mem_of_mem_drop h)
      rw [List.length_cons]
      omega
/-- expressions that have been read stand on the stack, one for each -/
theorem Exs.top {w : Nat} {a : List (Int × Int)} {d n : Nat} (b : Bool) (h : Exs w a d n) : ∀ rest : List (Int × Int), ∃ vs, topF b (a ++ rest) = vs ++ topF b rest ∧ vs.length = w ∧ mxL vs = if b = true then d else n := by
  induction h with
  | nil => exact fun rest => ⟨[], rfl, rfl, by cases b <;> rfl⟩
  | cons ha hb hc ih1 ih2 =>
    rename_i t k j d n d' n' p q
    intro rest
    obtain ⟨vs, h1, h2, h3⟩ := ih1 (q ++ rest)
    obtain ⟨us, g1, g2, g3⟩ := ih2 rest
    refine ⟨(mxL vs + addN b t.1) :: us, ?_, by simp [g2], ?_⟩
    · rw [List.cons_append, List.append_assoc, topF, ha, Int.toNat_natCast, h1, List.take_left' h2, List.drop_left' h2, g1]
      rfl
    · rw [mxL_cons, h3, g3]
      cases b
      · simp only [addN, Bool.false_eq_true, if_false]
        omega
      · simp only [addN, if_true]
        omega
theorem Exs.app {w : Nat} {a : List (Int × Int)} {d n : Nat} (h : Exs w a d n) : ∀ {w' : Nat} {a' : List (Int × Int)} {d' n' : Nat}, Exs w' a' d' n' → ∃ d2 n2, Exs (w + w') (a ++ a') d2 n2 := by
  induction h with
  | nil =>
    intro w' a' d' n' h'
    rw [Nat.zero_add]
    exact ⟨_, _, h'⟩
  | cons ha hb hc ih1 ih2 =>
    rename_i t k j d n d1 n1 p q
    intro w' a' d' n' h'
    obtain ⟨d2, n2, h2⟩ := ih2 h'
    rw [List.cons_append, List.append_assoc, show j + 1 + w' = (j + w') + 1 by omega]
    exact ⟨_, _, .cons ha hb h2⟩
/-- what is left of expressions are expressions -/
theorem Exs.rest {w : Nat} {a : List (Int × Int)} {d n : Nat} (h : Exs w a d n) : ∀ i, i ≤ a.length → ∃ w' d' n', Exs w' (a.drop i) d' n' := by
  induction h with
  | nil => exact fun i _ => ⟨0, 0, 0, by rw [List.drop_nil]; exact .nil⟩
  | cons ha hb hc ih1 ih2 =>
    rename_i t k j d n d1 n1 p q
    intro i hi
    cases i with
    | zero => exact ⟨_, _, _, .cons ha hb hc⟩
    | succ i =>
      rw [List.drop_succ_cons]
      by_cases h : i ≤ p.length
      · obtain ⟨w1, d2, n2, h1⟩ := ih1 i h
        obtain ⟨d3, n3, h2⟩ := h1.app hc
        exact ⟨_, _, _, by rw [List.drop_append_of_le_length h]; exact h2⟩
      · obtain ⟨w1, d2, n2, h1⟩ := ih2 (i - p.length) (by simp at hi; omega)
        exact ⟨_, _, _, by rw [List.drop_append, List.drop_of_length_le (by omega), List.nil_append]; exact h1⟩
/-- each term of one expression finds its operands -/
theorem top_room {xs : List (Int × Int)} (h : oneB xs = true) (b : Bool) {i : Nat} (hi : i < xs.length) : 0 ≤ arF (toA xs i) ∧ (arF (toA xs i)).toNat ≤ (topF b (xs.drop (i + 1))).length := by
  obtain ⟨w, d, n, hx⟩ := (one_exs (oneB_iff.1 h)).rest i (Nat.le_of_lt hi)
  rw [drop_at hi] at hx
  generalize hq : (toA xs i, wtA xs i) :: xs.drop (i + 1) = q at hx
  cases hx with
  | nil => cases hq
  | cons ha hb hc =>
    rename_i t k j d n d1 n1 p q
    injection hq with h1 h2
    subst h1
    dsimp only at ha
    obtain ⟨vs, g1, g2, _⟩ := hb.top b q
    rw [h2, g1, ha]
    simp [g2]
/-- .. and the whole expression has one number -/
theorem top_whole {xs : List (Int × Int)} (h : oneB xs = true) (b : Bool) : topF b xs = [if b = true then (levF xs).1 else (levF xs).2] := by
  obtain ⟨vs, g1, g2, g3⟩ := (one_exs (oneB_iff.1 h)).top b []
  rw [List.append_nil] at g1
  rw [g1]
  match vs, g2 with
  | [v], _ =>
    simp only [mxL_cons, mxL_nil] at g3
    rw [← g3]
    simp [topF]
theorem top_step {xs : List (Int × Int)} (b : Bool) {i : Nat} (hi : i < xs.length) : topF b (xs.drop i) = (mxL ((topF b (xs.drop (i + 1))).take (arF (toA xs i)).toNat) + addN b (toA xs i)) :: (topF b (xs.drop (i + 1))).drop (arF (toA xs i)).toNat := by
  rw [drop_at hi]
  rfl
end Go.Proofs.Ytbcndmlhbdanaaa
