/- An operation with its operands is an expression; what its parts say of it. No program in it. -/
import Derived.Test.YtckofngclgkajaaTermApp
namespace Go.Proofs.Ytckofngclgkajaa

theorem eat_ops : ∀ {xs ys : List (Int × Int)} (w : Nat), xs.map Prod.fst = ys.map Prod.fst → eat xs w = eat ys w
  | xs, ys, 0, _ => by rw [eat_zero, eat_zero]
  | [], [], w + 1, _ => rfl
  | [], y :: ys, w + 1, h => by simp at h
  | x :: xs, [], w + 1, h => by simp at h
  | x :: xs, y :: ys, w + 1, h => by
    simp only [List.map_cons, List.cons.injEq] at h
    rw [eat_cons, eat_cons, h.1, eat_ops _ h.2]
theorem levG_ops : ∀ {xs ys : List (Int × Int)} (S : List (Int × Bool)) (d n : Nat), xs.map Prod.fst = ys.map Prod.fst → levG xs S d n = levG ys S d n
  | [], [], S, d, n, _ => rfl
  | [], y :: ys, S, d, n, h => by simp at h
  | x :: xs, [], S, d, n, h => by simp at h
  | x :: xs, y :: ys, S, d, n, h => by
    simp only [List.map_cons, List.cons.injEq] at h
    unfold levG
    rw [h.1]
    exact levG_ops _ _ _ h.2
theorem len_ops {xs ys : List (Int × Int)} (h : xs.map Prod.fst = ys.map Prod.fst) : xs.length = ys.length := by
  have := congrArg List.length h
  simpa using this
theorem oneB_ops {xs ys : List (Int × Int)} (h : xs.map Prod.fst = ys.map Prod.fst) : oneB xs = oneB ys := by
  rw [Bool.eq_iff_iff, oneB_iff, oneB_iff, eat_ops 1 h, len_ops h]
theorem depF_ops {xs ys : List (Int × Int)} (h : xs.map Prod.fst = ys.map Prod.fst) : depF xs = depF ys ∧ nesF xs = nesF ys := by
  unfold depF nesF levF
  rw [oneB_ops h, levG_ops [] 0 0 h]
  exact ⟨rfl, rfl⟩
section
variable {xs : List (Int × Int)} {m back : List Int}
theorem renT_fst (t : Int × Int) : (renT m t).1 = t.1 := by unfold renT; split <;> rfl
theorem renL_ops : (renL xs m).map Prod.fst = xs.map Prod.fst := by
  unfold renL
  rw [List.map_map]
  congr 1
  funext t
  exact renT_fst t
theorem renL_len : (renL xs m).length = xs.length := by simp [renL]
/-- the numbers of a renaming: each below k has a new one below n -/
def Names (m : List Int) (k n : Nat) : Prop := ∀ i, i < k → 0 ≤ idA m i ∧ idA m i < n
theorem argB_ren {t : Int × Int} {k n : Nat} (h : argB t k = true) (hm : Names m k n) : argB (renT m t) n = true := by
  obtain ⟨op, x⟩ := t
  by_cases ho : op = 5 ∨ op = 12
  · have hx := arg_var h ho
    have hn := hm x.toNat (by omega)
    unfold renT argB
    dsimp only
    rw [if_pos ho]
    dsimp only
    rw [if_neg (by omega), if_pos ho]
    simpa using hn
  · unfold renT
    dsimp only
    rw [if_neg ho]
    unfold argB at h ⊢
    dsimp only at h ⊢
    rw [if_neg ho] at h ⊢
    exact h
theorem validE_ren {k n : Nat} (h : validE xs k = true) (hm : Names m k n) : validE (renL xs m) n = true := by
  unfold validE at h ⊢
  have e := renL_ops (xs := xs) (m := m)
  rw [renL_len, oneB_ops e, (depF_ops e).1, (depF_ops e).2]
  simp only [Bool.and_eq_true] at h ⊢
  refine ⟨h.1, ?_⟩
  rw [List.all_eq_true] at *
  intro t ht
  unfold renL at ht
  obtain ⟨u, hu, rfl⟩ := List.mem_map.1 ht
  exact argB_ren (h.2 u hu) hm
theorem renL_back {k : Nat} (h : validE xs k = true) (hb : ∀ i, i < k → 0 ≤ idA m i ∧ idA back (idA m i).toNat = i) : renL (renL xs m) back = xs := by
  unfold renL
  rw [List.map_map]
  conv => rhs; rw [← List.map_id xs]
  apply List.map_congr_left
  intro t ht
  obtain ⟨i, hi, rfl⟩ := List.mem_iff_getElem.1 ht
  have ha := valid_arg h hi
  obtain ⟨⟨op, x⟩, hx⟩ : ∃ t, xs[i] = t := ⟨_, rfl⟩
  rw [hx]
  have e1 : toA xs i = op := by simp [toA, hi, hx]
  have e2 : wtA xs i = x := by simp [wtA, hi, hx]
  rw [e1, e2] at ha
  show renT back (renT m (op, x)) = (op, x)
  by_cases ho : op = 5 ∨ op = 12
  · have hx2 := arg_var ha ho
    have hk := hb x.toNat (by omega)
    unfold renT
    dsimp only
    rw [if_pos ho]
    dsimp only
    rw [if_pos ho, hk.2]
    congr 1
    omega
  · unfold renT
    dsimp only
    rw [if_neg ho]
    dsimp only
    rw [if_neg ho]
end
theorem maskG_bit (op : Int) : ∀ (xs : List (Int × Int)) (S j : Nat), (maskG op xs S).testBit j = true ↔ S.testBit j = true ∨ ∃ t ∈ xs, t.1 = op ∧ t.2.toNat = j
  | [], S, j => by simp [maskG]
  | t :: ts, S, j => by
    unfold maskG
    rw [maskG_bit op ts]
    by_cases h : t.1 = op
    · rw [if_pos h, or_bit_iff]
      constructor
      · rintro ((h1 | h1) | ⟨u, hu, h1⟩)
        · exact .inl h1
        · exact .inr ⟨t, by simp, h, h1.symm⟩
        · exact .inr ⟨u, by simp [hu], h1⟩
      · rintro (h1 | ⟨u, hu, h1⟩)
        · exact .inl (.inl h1)
        · rcases List.mem_cons.1 hu with rfl | hu
          · exact .inl (.inr h1.2.symm)
          · exact .inr ⟨u, hu, h1⟩
    · rw [if_neg h]
      constructor
      · rintro (h1 | ⟨u, hu, h1⟩)
        · exact .inl h1
        · exact .inr ⟨u, by simp [hu], h1⟩
      · rintro (h1 | ⟨u, hu, h1⟩)
        · exact .inl h1
        · rcases List.mem_cons.1 hu with rfl | hu
          · exact absurd h1.1 h
          · exact .inr ⟨u, hu, h1⟩
/-- what is read is renamed -/
theorem reads_ren {xs : List (Int × Int)} {m : List Int} (h : validE xs 6 = true) (hm : Names m 6 6) (hinj : ∀ i j, i < 6 → j < 6 → idA m i = idA m j → i = j) {op : Int} (ho : op = 5 ∨ op = 12) {i : Nat} (hi : i < 6) :
    (readsF op xs).testBit i = (readsF op (renL xs m)).testBit (idA m i).toNat := by
  have h2 : validE (renL xs m) 6 = true := validE_ren (k := 6) (n := 6) h hm
  unfold readsF
  rw [if_pos h, if_pos h2, Bool.eq_iff_iff, maskG_bit, maskG_bit]
  have key : ∀ t ∈ xs, t.1 = op → 0 ≤ t.2 ∧ t.2 < 6 := fun t ht e => by
    obtain ⟨k, hk, rfl⟩ := List.mem_iff_getElem.1 ht
    have ha := valid_arg h hk
    have e1 : toA xs k = xs[k].1 := by simp [toA, hk]
    have e2 : wtA xs k = xs[k].2 := by simp [wtA, hk]
    rw [e1, e2, e] at ha
    exact arg_var ha ho
  have ren : ∀ t : Int × Int, t.1 = op → renT m t = (t.1, idA m t.2.toNat) := fun t e => by unfold renT; rw [if_pos (by rw [e]; exact ho)]
  constructor
  · rintro (h1 | ⟨t, ht, h1, h3⟩)
    · simp at h1
    · refine .inr ⟨renT m t, List.mem_map.2 ⟨t, ht, rfl⟩, by rw [renT_fst, h1], ?_⟩
      rw [ren t h1, h3]
  · rintro (h1 | ⟨u, hu, h1, h3⟩)
    · simp at h1
    · obtain ⟨t, ht, rfl⟩ := List.mem_map.1 hu
      rw [renT_fst] at h1
      have hk := key t ht h1
      rw [ren t h1] at h3
      dsimp only at h3
      have a1 := hm t.2.toNat (by omega)
      have a2 := hm i hi
      exact .inr ⟨t, ht, h1, hinj _ _ (by omega) hi (by omega)⟩
end Go.Proofs.Ytckofngclgkajaa
namespace Go.Proofs.Ytckofngclgkajaa

theorem Exs.snoc {a c : List (Int × Int)} {d n j d' n' : Nat} (h : Exs 1 a d n) (hc : Exs j c d' n') : Exs (j + 1) (a ++ c) (max d d') (max n n') := by
  generalize hw : 1 = w at h
  cases h with
  | nil => cases hw
  | cons ha hb h0 =>
    rename_i t k i d1 n1 d2 n2 b e
    have hi : i = 0 := by omega
    subst hi
    obtain ⟨rfl, rfl, rfl⟩ := h0.zero
    have := Exs.cons ha hb hc
    rw [List.append_nil, List.cons_append, show max (max (d1 + 1) 0) d' = max (d1 + 1) d' by omega, show max (max (n1 + aggN t.1) 0) n' = max (n1 + aggN t.1) n' by omega]
    exact this
/-- an operation in front of its operands -/
theorem Exs.grow {b : List (Int × Int)} {k d n : Nat} {t : Int × Int} (ha : arF t.1 = (k : Int)) (hb : Exs k b d n) : Exs 1 (t :: b) (d + 1) (n + aggN t.1) := by
  have := Exs.cons ha hb Exs.nil
  rwa [List.append_nil, show max (d + 1) 0 = d + 1 by omega, show max (n + aggN t.1) 0 = n + aggN t.1 by omega] at this
theorem Exs.one {a : List (Int × Int)} {d n : Nat} (h : Exs 1 a d n) : oneB a = true ∧ depF a = d ∧ nesF a = n := by
  have h1 : oneB a = true := oneB_iff.2 h.eats
  unfold depF nesF
  rw [if_pos h1, if_pos h1, h.levF]
  exact ⟨h1, rfl, rfl⟩
theorem Exs.valid {a : List (Int × Int)} {d n : Nat} (h : Exs 1 a d n) (vars : Int) : validE a vars = (decide (a.length ≤ 200) && decide (d ≤ 24) && decide (n ≤ 2) && a.all fun t => argB t vars) := by
  obtain ⟨h1, h2, h3⟩ := h.one
  unfold validE
  rw [h1, h2, h3, Bool.eq_iff_iff]
  simp only [Bool.and_eq_true, decide_eq_true_eq, and_true]
  constructor
  · rintro ⟨⟨⟨h1, h2⟩, h3⟩, h4⟩
    exact ⟨⟨⟨h1, by omega⟩, by omega⟩, h4⟩
  · rintro ⟨⟨⟨h1, h2⟩, h3⟩, h4⟩
    exact ⟨⟨⟨h1, by omega⟩, by omega⟩, h4⟩
/-- a valid list, taken apart -/
theorem valid_exs {a : List (Int × Int)} {vars : Int} (h : validE a vars = true) : ∃ d n, Exs 1 a d n ∧ depF a = d ∧ nesF a = n ∧ d ≤ 24 ∧ n ≤ 2 ∧ a.length ≤ 200 ∧ (a.all fun t => argB t vars) = true := by
  have h0 := h
  unfold validE at h
  simp only [Bool.and_eq_true, decide_eq_true_eq] at h
  obtain ⟨⟨⟨⟨h1, h2⟩, h3⟩, h4⟩, h5⟩ := h
  have hx := one_exs (oneB_iff.1 h2)
  obtain ⟨_, e1, e2⟩ := hx.one
  exact ⟨_, _, hx, e1, e2, by omega, by omega, h1, h5⟩
theorem argB_op {op vars : Int} (h : 18 ≤ op) : argB (op, 0) vars = true := by
  unfold argB
  dsimp only
  rw [if_neg (by omega), if_neg (by omega)]
  rfl
/-- the greatest of some operations: one, two, three operands -/
theorem grow1 {op vars : Int} {a : List (Int × Int)} (ho : 18 ≤ op ∧ op ≤ 29) (ha : validE a vars = true) : oneB ((op, 0) :: a) = true ∧ depF ((op, 0) :: a) = depF a + 1 ∧ nesF ((op, 0) :: a) = nesF a + aggN op ∧ validE ((op, 0) :: a) vars = (decide (a.length + 1 ≤ 200) && decide (depF a < 24) && decide (nesF a + aggN op ≤ 2)) := by
  obtain ⟨d, n, hx, e1, e2, _, _, _, h5⟩ := valid_exs ha
  have hg := Exs.grow (t := (op, 0)) (k := 1) (by show arF op = 1; unfold arF; rw [if_neg (by omega), if_pos ho]) hx
  obtain ⟨g1, g2, g3⟩ := hg.one
  refine ⟨g1, by rw [g2, e1]; rfl, by rw [g3, e2]; rfl, ?_⟩
  rw [hg.valid vars, List.all_cons, argB_op ho.1, h5, e1, e2, Bool.eq_iff_iff]
  simp only [Bool.and_eq_true, decide_eq_true_eq, and_true, List.length_cons]
  omega
theorem grow2 {op vars : Int} {a b : List (Int × Int)} (ho : 30 ≤ op ∧ op ≤ 42) (ha : validE a vars = true) (hb : validE b vars = true) : oneB ((op, 0) :: (a ++ b)) = true ∧ depF ((op, 0) :: (a ++ b)) = max (depF a) (depF b) + 1 ∧ nesF ((op, 0) :: (a ++ b)) = max (nesF a) (nesF b) ∧ validE ((op, 0) :: (a ++ b)) vars = (decide (a.length + b.length + 1 ≤ 200) && decide (max (depF a) (depF b) < 24)) := by
  obtain ⟨d, n, hx, e1, e2, _, hn1, _, h5⟩ := valid_exs ha
  obtain ⟨d', n', hy, f1, f2, _, hn2, _, h6⟩ := valid_exs hb
  have hag : aggN op = 0 := by unfold aggN aggF; rw [if_neg]; simp; omega
  have hg := Exs.grow (t := (op, 0)) (k := 2) (by show arF op = 2; unfold arF; rw [if_neg (by omega), if_neg (by omega), if_pos ho]) (hx.snoc hy)
  obtain ⟨g1, g2, g3⟩ := hg.one
  refine ⟨g1, by rw [g2, e1, f1]; omega, by rw [g3, e2, f2]; dsimp only; rw [hag]; omega, ?_⟩
  rw [hg.valid vars, List.all_cons, List.all_append, argB_op (by omega), h5, h6, e1, f1, Bool.eq_iff_iff]
  dsimp only
  rw [hag]
  simp only [Bool.and_eq_true, decide_eq_true_eq, and_true, List.length_cons, List.length_append]
  omega
theorem grow3 {op vars : Int} {a b c : List (Int × Int)} (ho : op = 43) (ha : validE a vars = true) (hb : validE b vars = true) (hc : validE c vars = true) : oneB ((op, 0) :: (a ++ (b ++ c))) = true ∧ depF ((op, 0) :: (a ++ (b ++ c))) = max (depF a) (max (depF b) (depF c)) + 1 ∧ nesF ((op, 0) :: (a ++ (b ++ c))) = max (nesF a) (max (nesF b) (nesF c)) ∧ validE ((op, 0) :: (a ++ (b ++ c))) vars = (decide (a.length + b.length + c.length + 1 ≤ 200) && decide (max (depF a) (max (depF b) (depF c)) < 24)) := by
  obtain ⟨d, n, hx, e1, e2, _, hn1, _, h5⟩ := valid_exs ha
  obtain ⟨d', n', hy, f1, f2, _, hn2, _, h6⟩ := valid_exs hb
  obtain ⟨d'', n'', hz, k1, k2, _, hn3, _, h7⟩ := valid_exs hc
  have hag : aggN op = 0 := by unfold aggN aggF; rw [if_neg]; simp; omega
  have hg := Exs.grow (t := (op, 0)) (k := 3) (by show arF op = 3; unfold arF; rw [if_neg (by omega), if_neg (by omega), if_neg (by omega), if_pos ho]) (hx.snoc (hy.snoc hz))
  obtain ⟨g1, g2, g3⟩ := hg.one
  refine ⟨g1, by rw [g2, e1, f1, k1]; omega, by rw [g3, e2, f2, k2]; dsimp only; rw [hag]; omega, ?_⟩
  rw [hg.valid vars, List.all_cons, List.all_append, List.all_append, argB_op (by omega), h5, h6, h7, e1, f1, k1, Bool.eq_iff_iff]
  dsimp only
  rw [hag]
  simp only [Bool.and_eq_true, decide_eq_true_eq, and_true, List.length_cons, List.length_append]
  omega
end Go.Proofs.Ytckofngclgkajaa
