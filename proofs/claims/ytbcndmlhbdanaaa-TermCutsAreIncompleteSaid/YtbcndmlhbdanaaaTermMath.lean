/- Expressions in prefix order: arities and ends. No program in it. -/
import Derived.Test.YtbcndmlhbdanaaaBase
namespace Go.Proofs.Ytbcndmlhbdanaaa

/-- the number of operands of an operation; -1 if it is none -/
def arF (op : Int) : Int := if 1 ≤ op ∧ op ≤ 17 then 0 else if 18 ≤ op ∧ op ≤ 29 then 1 else if 30 ≤ op ∧ op ≤ 42 then 2 else if op = 43 then 3 else -1
theorem arF_le (op : Int) : -1 ≤ arF op ∧ arF op ≤ 3 := by unfold arF; repeat' split <;> omega
/-- whether an operation is an aggregate -/
def aggF (op : Int) : Bool := decide (20 ≤ op ∧ op ≤ 29)

/-- how many terms of a list so many expressions take, one behind the other -/
def eat : List (Int × Int) → Nat → Option Nat
  | _, 0 => some 0
  | [], _ + 1 => none
  | t :: ts, w + 1 => if arF t.1 < 0 then none else (eat ts (w + (arF t.1).toNat)).map (· + 1)
theorem eat_zero (ts : List (Int × Int)) : eat ts 0 = some 0 := by cases ts <;> rfl
theorem eat_nil (w : Nat) : eat [] (w + 1) = none := rfl
theorem eat_cons (t : Int × Int) (ts : List (Int × Int)) (w : Nat) : eat (t :: ts) (w + 1) = if arF t.1 < 0 then none else (eat ts (w + (arF t.1).toNat)).map (· + 1) := rfl
theorem eat_add : ∀ (ts : List (Int × Int)) (a b : Nat), eat ts (a + b) = (eat ts a).bind fun n => (eat (ts.drop n) b).map (n + ·)
  | ts, 0, b => by
    rw [eat_zero, Nat.zero_add]
    simp
  | [], a + 1, b => by
    rw [show a + 1 + b = (a + b) + 1 by omega, eat_nil, eat_nil]
    rfl
  | t :: ts, a + 1, b => by
    rw [show a + 1 + b = (a + b) + 1 by omega, eat_cons, eat_cons]
    split
    · rfl
    · rw [show a + b + (arF t.1).toNat = (a + (arF t.1).toNat) + b by omega, eat_add ts _ b]
      cases eat ts (a + (arF t.1).toNat) with
      | none => rfl
      | some n =>
        simp only [Option.bind_some, Option.map_some, List.drop_succ_cons, Option.map_map]
        congr 1
        funext x
        simp
        omega
theorem eat_le : ∀ {ts : List (Int × Int)} {w n : Nat}, eat ts w = some n → w ≤ n ∧ n ≤ ts.length
  | ts, 0, n, h => by
    rw [eat_zero] at h
    cases h
    omega
  | [], w + 1, n, h => by rw [eat_nil] at h; cases h
  | t :: ts, w + 1, n, h => by
    rw [eat_cons] at h
    split at h
    · cases h
    · cases hk : eat ts (w + (arF t.1).toNat) with
      | none => rw [hk] at h; cases h
      | some m =>
        rw [hk] at h
        have e : m + 1 = n := by simpa using h
        have := eat_le hk
        simp
        omega
theorem eat_part : ∀ {ts : List (Int × Int)} {w n : Nat} (us : List (Int × Int)), eat ts w = some n → eat (ts ++ us) w = some n
  | ts, 0, n, us, h => by
    rw [eat_zero] at h ⊢
    exact h
  | [], w + 1, n, us, h => by rw [eat_nil] at h; cases h
  | t :: ts, w + 1, n, us, h => by
    rw [eat_cons] at h
    rw [List.cons_append, eat_cons]
    split at h
    · cases h
    · rename_i hk
      rw [if_neg hk]
      cases hm : eat ts (w + (arF t.1).toNat) with
      | none => rw [hm] at h; cases h
      | some m =>
        rw [hm] at h
        rw [eat_part us hm]
        exact h
theorem eat_take : ∀ {ts : List (Int × Int)} {w n : Nat}, eat ts w = some n → eat (ts.take n) w = some n
  | ts, 0, n, h => by
    rw [eat_zero] at h ⊢
    exact h
  | [], w + 1, n, h => by rw [eat_nil] at h; cases h
  | t :: ts, w + 1, n, h => by
    rw [eat_cons] at h
    split at h
    · cases h
    · rename_i hk
      cases hm : eat ts (w + (arF t.1).toNat) with
      | none => rw [hm] at h; cases h
      | some m =>
        rw [hm] at h
        have e : m + 1 = n := by simpa using h
        subst e
        rw [List.take_succ_cons, eat_cons, if_neg hk, eat_take hm]
        rfl

/-- the place behind the expression that begins at a place; -1 if none does -/
def endF (xs : List (Int × Int)) (p : Int) : Int :=
  if 0 ≤ p ∧ p < xs.length then (match eat (xs.drop p.toNat) 1 with
    | some n => p + n
    | none => -1) else -1
theorem endF_out {xs : List (Int × Int)} {p : Int} (h : ¬ (0 ≤ p ∧ p < xs.length)) : endF xs p = -1 := by unfold endF; rw [if_neg h]
theorem endF_none {xs : List (Int × Int)} {p : Nat} (h : eat (xs.drop p) 1 = none) : endF xs p = -1 := by
  unfold endF
  split
  · rw [Int.toNat_natCast, h]
  · rfl
theorem endF_some {xs : List (Int × Int)} {p n : Nat} (h : eat (xs.drop p) 1 = some n) : endF xs p = (p + n : Nat) := by
  have hl := eat_le h
  rw [List.length_drop] at hl
  unfold endF
  rw [if_pos (by omega), Int.toNat_natCast, h]
  simp
theorem endF_le (xs : List (Int × Int)) (p : Int) : -1 ≤ endF xs p ∧ endF xs p ≤ xs.length := by
  unfold endF
  split
  · rename_i h
    split
    · rename_i n hn
      have hl := eat_le hn
      rw [List.length_drop] at hl
      omega
    · omega
  · omega
/-- what is known amid the count: i terms are read, w expressions are wanted -/
def Amid (xs : List (Int × Int)) (p i w : Nat) : Prop := p ≤ i ∧ i ≤ xs.length ∧ eat (xs.drop p) 1 = (eat (xs.drop i) (w + 1)).map (· + (i - p))
theorem Amid.start {xs : List (Int × Int)} {p : Nat} (h : p ≤ xs.length) : Amid xs p p 0 := ⟨Nat.le_refl _, h, by simp⟩
theorem drop_at {xs : List (Int × Int)} {i : Nat} (h : i < xs.length) : xs.drop i = (toA xs i, wtA xs i) :: xs.drop (i + 1) := by
  simp [toA, wtA, h]
  exact List.drop_eq_getElem_cons h
theorem Amid.bad {xs : List (Int × Int)} {p i w : Nat} (h : Amid xs p i w) (hi : i < xs.length) (ha : arF (toA xs i) < 0) : endF xs p = -1 := by
  obtain ⟨h1, h2, h3⟩ := h
  rw [drop_at hi, eat_cons, if_pos ha] at h3
  exact endF_none h3
theorem Amid.over {xs : List (Int × Int)} {p w : Nat} (h : Amid xs p xs.length w) : endF xs p = -1 := by
  obtain ⟨h1, h2, h3⟩ := h
  rw [List.drop_length, eat_nil] at h3
  exact endF_none h3
theorem Amid.found {xs : List (Int × Int)} {p i : Nat} (h : Amid xs p i 0) (hi : i < xs.length) (ha : arF (toA xs i) = 0) : endF xs p = (i + 1 : Nat) := by
  obtain ⟨h1, h2, h3⟩ := h
  rw [drop_at hi, eat_cons, if_neg (by dsimp only; omega), show (0 : Nat) + (arF (toA xs i, wtA xs i).1).toNat = 0 by dsimp only; omega, eat_zero] at h3
  simp only [Option.map_some] at h3
  rw [endF_some h3]
  omega
theorem Amid.next {xs : List (Int × Int)} {p i w v : Nat} (h : Amid xs p i w) (hi : i < xs.length) (ha : 0 ≤ arF (toA xs i)) (hv : (v : Int) + 1 = w + arF (toA xs i)) : Amid xs p (i + 1) v := by
  obtain ⟨h1, h2, h3⟩ := h
  refine ⟨by omega, hi, ?_⟩
  rw [h3, drop_at hi, eat_cons, if_neg (by dsimp only; omega), show w + (arF (toA xs i, wtA xs i).1).toNat = v + 1 by dsimp only; omega, Option.map_map]
  congr 1
  funext x
  simp
  omega

/-- whether a list is one expression -/
def oneB (xs : List (Int × Int)) : Bool := decide (0 < xs.length ∧ endF xs 0 = xs.length)
/-- the place of an operand, if there is one -/
def placeF (xs : List (Int × Int)) (p : Int) : Nat → Int
  | 0 => p + 1
  | k + 1 => endF xs (placeF xs p k)
def opdF (xs : List (Int × Int)) (p k : Int) : Int := if endF xs p < 0 ∨ k < 0 ∨ arF (toA xs p.toNat) ≤ k then -1 else placeF xs p k.toNat
theorem endF_in {xs : List (Int × Int)} {p : Int} (h : ¬ endF xs p < 0) : 0 ≤ p ∧ p < xs.length := by
  by_cases hp : 0 ≤ p ∧ p < xs.length
  · exact hp
  · rw [endF_out hp] at h
    omega
theorem placeF_le {xs : List (Int × Int)} {p : Int} (hp : 0 ≤ p ∧ p < xs.length) : ∀ k, -1 ≤ placeF xs p k ∧ placeF xs p k ≤ xs.length
  | 0 => by unfold placeF; omega
  | k + 1 => endF_le xs _
/-- whether an argument is permitted -/
def argB (t : Int × Int) (vars : Int) : Bool :=
  if t.1 = 1 then decide (0 ≤ t.2 ∧ t.2 ≤ 1073741824) else if t.1 = 5 ∨ t.1 = 12 then decide (0 ≤ t.2 ∧ t.2 < vars) else decide (t.2 = 0)
theorem terms_ext {xs ys : List (Int × Int)} (hl : xs.length = ys.length) (h : ∀ i, i < xs.length → toA xs i = toA ys i ∧ wtA xs i = wtA ys i) : xs = ys := by
  apply List.ext_getElem hl
  intro i h1 h2
  have := h i h1
  simp only [toA, wtA, List.getD, List.getElem?_eq_getElem h1, List.getElem?_eq_getElem h2, Option.getD_some] at this
  exact Prod.ext this.1 this.2
end Go.Proofs.Ytbcndmlhbdanaaa
