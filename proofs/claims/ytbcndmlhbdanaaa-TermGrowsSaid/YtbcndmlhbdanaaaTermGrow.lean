/- An operation with its operands is an expression; what its parts say of it. No program in it. -/
import Derived.Test.YtbcndmlhbdanaaaTermBack
namespace Go.Proofs.Ytbcndmlhbdanaaa

theorem Exs.snoc {a c : List (Int × Int)} {d n j d' n' : Nat} (h : Exs 1 a d n) (hc : Exs j c d' n') : Exs (j + 1) (a ++ c) (max d d') (max n n') := by
  generalize hw : 1 = w at h
  cases h with
  | nil => cases hw
  | cons ha hb h0 =>
    rename_i t k i d1 n1 d2 n2 b e
    have hi : i = 0 := by omega
    subst hi
    obtain ⟨rfl, rfl, rfl⟩ := h0.zero
    have := Exs.cons ha hb hc
    rw [List.append_nil, List.cons_append, show max (max (d1 + 1) 0) d' = max (d1 + 1) d' by omega, show max (max (n1 + aggN t.1) 0) n' = max (n1 + aggN t.1) n' by omega]
    exact this
/-- an operation in front of its operands -/
theorem Exs.grow {b : List (Int × Int)} {k d n : Nat} {t : Int × Int} (ha : arF t.1 = (k : Int)) (hb : Exs k b d n) : Exs 1 (t :: b) (d + 1) (n + aggN t.1) := by
  have := Exs.cons ha hb Exs.nil
  rwa [List.append_nil, show max (d + 1) 0 = d + 1 by omega, show max (n + aggN t.1) 0 = n + aggN t.1 by omega] at this
theorem Exs.one {a : List (Int × Int)} {d n : Nat} (h : Exs 1 a d n) : oneB a = true ∧ depF a = d ∧ nesF a = n := by
  have h1 : oneB a = true := oneB_iff.2 h.eats
  unfold depF nesF
  rw [if_pos h1, if_pos h1, h.levF]
  exact ⟨h1, rfl, rfl⟩
theorem Exs.valid {a : List (Int × Int)} {d n : Nat} (h : Exs 1 a d n) (vars : Int) : validE a vars = (decide (a.length ≤ 200) && decide (d ≤ 24) && decide (n ≤ 2) && a.all fun t => argB t vars) := by
  obtain ⟨h1, h2, h3⟩ := h.one
  unfold validE
  rw [h1, h2, h3, Bool.eq_iff_iff]
  simp only [Bool.and_eq_true, decide_eq_true_eq, and_true]
  constructor
  · rintro ⟨⟨⟨h1, h2⟩, h3⟩, h4⟩
    exact ⟨⟨⟨h1, by omega⟩, by omega⟩, h4⟩
  · rintro ⟨⟨⟨h1, h2⟩, h3⟩, h4⟩
    exact ⟨⟨⟨h1, by omega⟩, by omega⟩, h4⟩
/-- a valid list, taken apart -/
theorem valid_exs {a : List (Int × Int)} {vars : Int} (h : validE a vars = true) : ∃ d n, Exs 1 a d n ∧ depF a = d ∧ nesF a = n ∧ d ≤ 24 ∧ n ≤ 2 ∧ a.length ≤ 200 ∧ (a.all fun t => argB t vars) = true := by
  have h0 := h
  unfold validE at h
  simp only [Bool.and_eq_true, decide_eq_true_eq] at h
  obtain ⟨⟨⟨⟨h1, h2⟩, h3⟩, h4⟩, h5⟩ := h
  have hx := one_exs (oneB_iff.1 h2)
  obtain ⟨_, e1, e2⟩ := hx.one
  exact ⟨_, _, hx, e1, e2, by omega, by omega, h1, h5⟩
theorem argB_op {op vars : Int} (h : 18 ≤ op) : argB (op, 0) vars = true := by
  unfold argB
  dsimp only
  rw [if_neg (by omega), if_neg (by omega)]
  rfl
/-- the greatest of some operations: one, two, three operands -/
theorem grow1 {op vars : Int} {a : List (Int × Int)} (ho : 18 ≤ op ∧ op ≤ 29) (ha : validE a vars = true) : oneB ((op, 0) :: a) = true ∧ depF ((op, 0) :: a) = depF a + 1 ∧ nesF ((op, 0) :: a) = nesF a + aggN op ∧ validE ((op, 0) :: a) vars = (decide (a.length + 1 ≤ 200) && decide (depF a < 24) && decide (nesF a + aggN op ≤ 2)) := by
  obtain ⟨d, n, hx, e1, e2, _, _, _, h5⟩ := valid_exs ha
  have hg := Exs.grow (t := (op, 0)) (k := 1) (by show arF op = 1; unfold arF; rw [if_neg (by omega), if_pos ho]) hx
  obtain ⟨g1, g2, g3⟩ := hg.one
  refine ⟨g1, by rw [g2, e1]; rfl, by rw [g3, e2]; rfl, ?_⟩
  rw [hg.valid vars, List.all_cons, argB_op ho.1, h5, e1, e2, Bool.eq_iff_iff]
  simp only [Bool.and_eq_true, decide_eq_true_eq, and_true, List.length_cons]
  omega
theorem grow2 {op vars : Int} {a b : List (Int × Int)} (ho : 30 ≤ op ∧ op ≤ 42) (ha : validE a vars = true) (hb : validE b vars = true) : oneB ((op, 0) :: (a ++ b)) = true ∧ depF ((op, 0) :: (a ++ b)) = max (depF a) (depF b) + 1 ∧ nesF ((op, 0) :: (a ++ b)) = max (nesF a) (nesF b) ∧ validE ((op, 0) :: (a ++ b)) vars = (decide (a.length + b.length + 1 ≤ 200) && decide (max (depF a) (depF b) < 24)) := by
  obtain ⟨d, n, hx, e1, e2, _, hn1, _, h5⟩ := valid_exs ha
  obtain ⟨d', n', hy, f1, f2, _, hn2, _, h6⟩ := valid_exs hb
  have hag : aggN op = 0 := by unfold aggN aggF; rw [if_neg]; simp; omega
  have hg := Exs.grow (t := (op, 0)) (k := 2) (by show arF op = 2; unfold arF; rw [if_neg (by omega), if_neg (by omega), if_pos ho]) (hx.snoc hy)
  obtain ⟨g1, g2, g3⟩ := hg.one
  refine ⟨g1, by rw [g2, e1, f1]; omega, by rw [g3, e2, f2]; dsimp only; rw [hag]; omega, ?_⟩
  rw [hg.valid vars, List.all_cons, List.all_append, argB_op (by omega), h5, h6, e1, f1, Bool.eq_iff_iff]
  dsimp only
  rw [hag]
  simp only [Bool.and_eq_true, decide_eq_true_eq, and_true, List.length_cons, List.length_append]
  omega
theorem grow3 {op vars : Int} {a b c : List (Int × Int)} (ho : op = 43) (ha : validE a vars = true) (hb : validE b vars = true) (hc : validE c vars = true) : oneB ((op, 0) :: (a ++ (b ++ c))) = true ∧ depF ((op, 0) :: (a ++ (b ++ c))) = max (depF a) (max (depF b) (depF c)) + 1 ∧ nesF ((op, 0) :: (a ++ (b ++ c))) = max (nesF a) (max (nesF b) (nesF c)) ∧ validE ((op, 0) :: (a ++ (b ++ c))) vars = (decide (a.length + b.length + c.length + 1 ≤ 200) && decide (max (depF a) (max (depF b) (depF c)) < 24)) := by
  obtain ⟨d, n, hx, e1, e2, _, hn1, _, h5⟩ := valid_exs ha
  obtain ⟨d', n', hy, f1, f2, _, hn2, _, h6⟩ := valid_exs hb
  obtain ⟨d'', n'', hz, k1, k2, _, hn3, _, h7⟩ := valid_exs hc
  have hag : aggN op = 0 := by unfold aggN aggF; rw [if_neg]; simp; omega
  have hg := Exs.grow (t := (op, 0)) (k := 3) (by show arF op = 3; unfold arF; rw [if_neg (by omega), if_neg (by omega), if_neg (by omega), if_pos ho]) (hx.snoc (hy.snoc hz))
  obtain ⟨g1, g2, g3⟩ := hg.one
  refine ⟨g1, by rw [g2, e1, f1, k1]; omega, by rw [g3, e2, f2, k2]; dsimp only; rw [hag]; omega, ?_⟩
  rw [hg.valid vars, List.all_cons, List.all_append, List.all_append, argB_op (by omega), h5, h6, h7, e1, f1, k1, Bool.eq_iff_iff]
  dsimp only
  rw [hag]
  simp only [Bool.and_eq_true, decide_eq_true_eq, and_true, List.length_cons, List.length_append]
  omega
end Go.Proofs.Ytbcndmlhbdanaaa
