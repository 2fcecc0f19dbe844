/- Expressions as trees: so many expressions, one behind the other, with their depth and nest. No program in it. -/
import Derived.Test.YtbcndmlhbdanaaaTermLev
namespace Go.Proofs.Ytbcndmlhbdanaaa

def aggN (op : Int) : Nat := if aggF op = true then 1 else 0
/-- w expressions, one behind the other: the greatest of their depths is d, of their nests n -/
inductive Exs : Nat → List (Int × Int) → Nat → Nat → Prop
  | nil : Exs 0 [] 0 0
  | cons {t : Int × Int} {k j d n d' n' : Nat} {b c : List (Int × Int)} (ha : arF t.1 = (k : Int)) (hb : Exs k b d n) (hc : Exs j c d' n') : Exs (j + 1) (t :: (b ++ c)) (max (d + 1) d') (max (n + aggN t.1) n')
theorem Exs.zero {a : List (Int × Int)} {d n : Nat} (h : Exs 0 a d n) : a = [] ∧ d = 0 ∧ n = 0 := by
  generalize hw : 0 = w at h
  cases h with
  | nil => exact ⟨rfl, rfl, rfl⟩
  | cons ha hb hc => cases hw
theorem Exs.eats {w : Nat} {a : List (Int × Int)} {d n : Nat} (h : Exs w a d n) : eat a w = some a.length := by
  induction h with
  | nil => rfl
  | cons ha hb hc ih1 ih2 =>
    rename_i t k j d n d' n' b c
    rw [eat_cons, if_neg (by omega), ha, Int.toNat_natCast, Nat.add_comm j k, eat_add, eat_part c ih1]
    simp [ih2]
theorem exs_of : ∀ (m : Nat) (ts : List (Int × Int)) (w n : Nat), ts.length ≤ m → eat ts w = some n → ∃ d e, Exs w (ts.take n) d e
  | _, ts, 0, n, _, h => by
    rw [eat_zero] at h
    cases h
    exact ⟨0, 0, .nil⟩
  | _, [], w + 1, n, _, h => by rw [eat_nil] at h; cases h
  | 0, t :: ts, w + 1, n, hl, h => by simp at hl
  | m + 1, t :: ts, w + 1, n, hl, h => by
    rw [eat_cons] at h
    split at h
    · cases h
    · rename_i hk
      rw [Nat.add_comm w, eat_add] at h
      cases h1 : eat ts (arF t.1).toNat with
      | none => rw [h1] at h; cases h
      | some n1 =>
        rw [h1] at h
        simp only [Option.bind_some] at h
        cases h2 : eat (ts.drop n1) w with
        | none => rw [h2] at h; cases h
        | some n2 =>
          rw [h2] at h
          have e : n1 + n2 + 1 = n := by simpa using h
          subst e
          have hl2 : ts.length ≤ m := by simpa using hl
          obtain ⟨d1, e1, x1⟩ := exs_of m ts _ n1 hl2 h1
          obtain ⟨d2, e2, x2⟩ := exs_of m (ts.drop n1) w n2 (by rw [List.length_drop]; omega) h2
          refine ⟨max (d1 + 1) d2, max (e1 + aggN t.1) e2, ?_⟩
          rw [List.take_succ_cons, List.take_add]
          exact .cons (by omega) x1 x2

/-- the top of the stack has room for so many -/
def Room (w : Nat) : List (Int × Bool) → Prop
  | [] => True
  | (l, _) :: _ => (w : Int) ≤ l
def popN : Nat → List (Int × Bool) → List (Int × Bool)
  | 0, S => S
  | w + 1, S => popN w (popD S)
theorem popN_all : ∀ (k : Nat) (l : Int) (o : Bool) (S : List (Int × Bool)), l = (k : Int) + 1 → popN (k + 1) ((l, o) :: S) = popD S
  | 0, l, o, S, h => by
    subst h
    simp [popN, popD]
  | k + 1, l, o, S, h => by
    have e : popD ((l, o) :: S) = (l - 1, o) :: S := by
      unfold popD
      rw [if_neg (by omega)]
    show popN (k + 1) (popD ((l, o) :: S)) = popD S
    rw [e]
    exact popN_all k (l - 1) o S (by omega)
/-- behind w ≥ 2 expressions' first the stack is as high as before -/
theorem popD_high {w : Nat} {S : List (Int × Bool)} (h : Room (w + 2) S) : Room (w + 1) (popD S) ∧ (popD S).length = S.length ∧ insF (popD S) = insF S := by
  cases S with
  | nil => exact ⟨trivial, rfl, rfl⟩
  | cons x r =>
    obtain ⟨l, o⟩ := x
    have hl : ((w + 2 : Nat) : Int) ≤ l := h
    have e : popD ((l, o) :: r) = (l - 1, o) :: r := by
      unfold popD
      rw [if_neg (by omega)]
    rw [e]
    refine ⟨?_, rfl, rfl⟩
    show ((w + 1 : Nat) : Int) ≤ l - 1
    omega
/-- levels of expressions that are read on a stack -/
theorem Exs.lev {w : Nat} {a : List (Int × Int)} {d n : Nat} (h : Exs w a d n) : ∀ (rest : List (Int × Int)) (S : List (Int × Bool)) (D N : Nat), Room w S →
    levG (a ++ rest) S D N = levG rest (popN w S) (max D (if w = 0 then 0 else S.length + d)) (max N (if w = 0 then 0 else insF S + n)) := by
  induction h with
  | nil =>
    intro rest S D N _
    simp [popN]
  | cons ha hb hc ih1 ih2 =>
    rename_i t k j d n d' n' b c
    intro rest S D N hr
    have hins : insF ((arF t.1, aggF t.1) :: S) = insF S + aggN t.1 := by
      unfold insF aggN
      rw [List.countP_cons]
    have step : levG ((t :: (b ++ c)) ++ rest) S D N = levG (b ++ (c ++ rest)) (popF (((k : Int), aggF t.1) :: S)) (max D (S.length + 1)) (max N (insF S + aggN t.1)) := by
      rw [List.cons_append, List.append_assoc]
      show levG (b ++ (c ++ rest)) (popF ((arF t.1, aggF t.1) :: S)) _ (max N (insF ((arF t.1, aggF t.1) :: S))) = _
      rw [hins, ha]
    have mid : levG ((t :: (b ++ c)) ++ rest) S D N = levG (c ++ rest) (popD S) (max D (S.length + (d + 1))) (max N (insF S + (n + aggN t.1))) := by
      rw [step]
      cases k with
      | zero =>
        obtain ⟨rfl, rfl, rfl⟩ := hb.zero
        have e : popF ((((0 : Nat) : Int), aggF t.1) :: S) = popD S := by simp [popF]
        rw [e, List.nil_append]
        congr 1
        · omega
      | succ k =>
        have e : popF ((((k + 1 : Nat) : Int), aggF t.1) :: S) = (((k + 1 : Nat) : Int), aggF t.1) :: S := popF_done (by omega)
        rw [e, ih1 (c ++ rest) _ _ _ (by show ((k + 1 : Nat) : Int) ≤ ((k + 1 : Nat) : Int); omega), popN_all k _ _ _ (by omega)]
        have hi2 : insF ((((k + 1 : Nat) : Int), aggF t.1) :: S) = insF S + aggN t.1 := by
          unfold insF aggN
          rw [List.countP_cons]
        rw [if_neg (by omega), if_neg (by omega), hi2, List.length_cons]
        congr 1
        · omega
        · omega
    rw [mid]
    cases j with
    | zero =>
      obtain ⟨rfl, rfl, rfl⟩ := hc.zero
      rw [List.nil_append]
      show levG rest (popD S) _ _ = levG rest (popN 0 (popD S)) _ _
      rw [if_neg (by omega), if_neg (by omega)]
      unfold popN
      congr 1
      omega
    | succ j =>
      obtain ⟨h1, h2, h3⟩ := popD_high hr
      rw [ih2 rest (popD S) _ _ h1, if_neg (by omega), if_neg (by omega), if_neg (by omega), if_neg (by omega), h2, h3]
      show levG rest (popN (j + 1) (popD S)) _ _ = levG rest (popN (j + 1) (popD S)) _ _
      congr 1
      · omega
      · omega
theorem Exs.levF {a : List (Int × Int)} {d n : Nat} (h : Exs 1 a d n) : levF a = (d, n) := by
  have := h.lev [] [] 0 0 trivial
  rw [List.append_nil] at this
  unfold Go.Proofs.Ytbcndmlhbdanaaa.levF
  rw [this]
  simp [levG, insF]
/-- a list that is one expression -/
theorem one_exs {xs : List (Int × Int)} (h : eat xs 1 = some xs.length) : Exs 1 xs (levF xs).1 (levF xs).2 := by
  obtain ⟨d, n, hx⟩ := exs_of xs.length xs 1 xs.length (Nat.le_refl _) h
  rw [List.take_length] at hx
  rw [hx.levF]
  exact hx
theorem oneB_iff {xs : List (Int × Int)} : oneB xs = true ↔ eat xs 1 = some xs.length := by
  unfold oneB
  rw [decide_eq_true_eq]
  constructor
  · rintro ⟨h0, h⟩
    unfold endF at h
    rw [if_pos (by omega)] at h
    simp only [Int.toNat_zero, List.drop_zero] at h
    split at h
    · rename_i n hn
      rw [hn]
      congr 1
      omega
    · omega
  · intro h
    have := eat_le h
    refine ⟨by omega, ?_⟩
    have h2 := endF_some (xs := xs) (p := 0) (n := xs.length) (by simpa using h)
    simpa using h2
/-- every part is an expression, no deeper, and less deep if it is a proper part of one expression -/
theorem Exs.part {w : Nat} {a : List (Int × Int)} {d n : Nat} (h : Exs w a d n) : ∀ i, i < a.length → ∃ m d' n', eat (a.drop i) 1 = some m ∧ Exs 1 ((a.drop i).take m) d' n' ∧ d' ≤ d ∧ n' ≤ n ∧ (w = 1 → i ≠ 0 → d' < d) := by
  induction h with
  | nil => intro i hi; simp at hi
  | cons ha hb hc ih1 ih2 =>
    rename_i t k j d n d' n' b c
    intro i hi
    cases i with
    | zero =>
      have hx := Exs.cons ha hb Exs.nil
      rw [List.append_nil] at hx
      refine ⟨b.length + 1, max (d + 1) 0, max (n + aggN t.1) 0, ?_, ?_, by omega, by omega, fun _ h => absurd rfl h⟩
      · rw [List.drop_zero]
        have := eat_part c hx.eats
        rwa [List.cons_append, List.length_cons] at this
      · rw [List.drop_zero, List.take_succ_cons, List.take_append_of_le_length (Nat.le_refl _), List.take_length]
        exact hx
    | succ i =>
      rw [List.drop_succ_cons]
      by_cases hib : i < b.length
      · obtain ⟨m, d1, n1, h1, h2, h3, h4, _⟩ := ih1 i hib
        have hm := (eat_le h1).2
        rw [List.drop_append_of_le_length (by omega)]
        refine ⟨m, d1, n1, eat_part c h1, ?_, by omega, by omega, fun _ _ => by omega⟩
        rw [List.take_append_of_le_length hm]
        exact h2
      · have hlen : i + 1 < b.length + c.length + 1 := by simpa using hi
        obtain ⟨m, d1, n1, h1, h2, h3, h4, _⟩ := ih2 (i - b.length) (by omega)
        have e : (b ++ c).drop i = c.drop (i - b.length) := by
          rw [List.drop_append, List.drop_of_length_le (by omega), List.nil_append]
        rw [e]
        refine ⟨m, d1, n1, h1, h2, by omega, by omega, fun hw _ => ?_⟩
        have hj : j = 0 := by omega
        subst hj
        obtain ⟨rfl, _, _⟩ := hc.zero
        simp at hlen
        omega
/-- the places of the operands -/
theorem place_eat {xs : List (Int × Int)} {p K N : Nat} (h : eat (xs.drop (p + 1)) K = some N) : ∀ k, k ≤ K → ∃ n, eat (xs.drop (p + 1)) k = some n ∧ placeF xs p k = (p + 1 + n : Nat)
  | 0, _ => ⟨0, eat_zero _, by unfold placeF; omega⟩
  | k + 1, hk => by
    obtain ⟨n, h1, h2⟩ := place_eat h k (by omega)
    rw [show K = k + (1 + (K - k - 1)) by omega, eat_add, h1, Option.bind_some, eat_add] at h
    cases h3 : eat ((xs.drop (p + 1)).drop n) 1 with
    | none => rw [h3] at h; cases h
    | some m =>
      refine ⟨n + m, by rw [eat_add, h1, Option.bind_some, h3]; rfl, ?_⟩
      rw [List.drop_drop] at h3
      show endF xs (placeF xs p k) = _
      rw [h2, endF_some h3]
      omega
theorem end_place {xs : List (Int × Int)} {p m : Nat} (hp : p < xs.length) (h : eat (xs.drop p) 1 = some m) : 0 ≤ arF (toA xs p) ∧ endF xs p = placeF xs p (arF (toA xs p)).toNat ∧ ∃ N, eat (xs.drop (p + 1)) (arF (toA xs p)).toNat = some N := by
  have he := endF_some h
  rw [drop_at hp, eat_cons] at h
  split at h
  · cases h
  · rename_i hk
    dsimp only at h hk
    rw [Nat.zero_add] at h
    cases hn : eat (xs.drop (p + 1)) (arF (toA xs p)).toNat with
    | none => rw [hn] at h; cases h
    | some N =>
      rw [hn] at h
      have e : N + 1 = m := by simpa using h
      obtain ⟨n, h1, h2⟩ := place_eat hn _ (Nat.le_refl _)
      rw [hn] at h1
      cases h1
      exact ⟨by omega, by rw [he, h2]; omega, N, rfl⟩
/-- in one expression an expression begins at each place -/
theorem one_part {xs : List (Int × Int)} (h : oneB xs = true) {p : Nat} (hp : p < xs.length) : ∃ m, eat (xs.drop p) 1 = some m := by
  obtain ⟨m, _, _, h1, _⟩ := (one_exs (oneB_iff.1 h)).part p hp
  exact ⟨m, h1⟩
/-- a proper beginning is no expression; nor is one with a term behind it -/
theorem one_cut {xs : List (Int × Int)} (h : oneB xs = true) {m : Nat} (hm : m < xs.length) : eat (xs.take m) 1 = none := by
  cases hk : eat (xs.take m) 1 with
  | none => rfl
  | some k =>
    have h1 := eat_part (xs.drop m) hk
    rw [List.take_append_drop, oneB_iff.1 h] at h1
    have h2 := (eat_le hk).2
    rw [List.length_take] at h2
    injection h1 with h1
    omega
theorem one_long {xs : List (Int × Int)} (h : oneB xs = true) (t : Int × Int) : eat (xs ++ [t]) 1 = some xs.length := eat_part [t] (oneB_iff.1 h)
end Go.Proofs.Ytbcndmlhbdanaaa
