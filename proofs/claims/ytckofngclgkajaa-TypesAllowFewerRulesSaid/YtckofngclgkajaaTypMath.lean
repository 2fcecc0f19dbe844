/- Types of expressions: what kind of the specification of layer 7 answers, as a function of the tree; its laws. No program in it. -/
import Derived.Test.YtckofngclgkajaaTermR5
import Derived.Test.YtckofngclgkajaaExprPieces
namespace Go.Proofs.Ytckofngclgkajaa

def aggN (op : Int) : Nat := if aggF op = true then 1 else 0
/-- w expressions, one behind the other: the greatest of their depths is d, of their nests n -/
inductive Exs : Nat → List (Int × Int) → Nat → Nat → Prop
  | nil : Exs 0 [] 0 0
  | cons {t : Int × Int} {k j d n d' n' : Nat} {b c : List (Int × Int)} (ha : arF t.1 = (k : Int)) (hb : Exs k b d n) (hc : Exs j c d' n') : Exs (j + 1) (t :: (b ++ c)) (max (d + 1) d') (max (n + aggN t.1) n')
theorem Exs.zero {a : List (Int × Int)} {d n : Nat} (h : Exs 0 a d n) : a = [] ∧ d = 0 ∧ n = 0 := by
  generalize hw : 0 = w at h
  cases h with
  | nil => exact ⟨rfl, rfl, rfl⟩
  | cons ha hb hc => cases hw
theorem Exs.eats {w : Nat} {a : List (Int × Int)} {d n : Nat} (h : Exs w a d n) : eat a w = some a.length := by
  induction h with
  | nil => rfl
  | cons ha hb hc ih1 ih2 =>
    rename_i t k j d n d' n' b c
    rw [eat_cons, if_neg (by omega), ha, Int.toNat_natCast, Nat.add_comm j k, eat_add, eat_part c ih1]
    simp [ih2]
theorem exs_of : ∀ (m : Nat) (ts : List (Int × Int)) (w n : Nat), ts.length ≤ m → eat ts w = some n → ∃ d e, Exs w (ts.take n) d e
  | _, ts, 0, n, _, h => by
    rw [eat_zero] at h
    cases h
    exact ⟨0, 0, .nil⟩
  | _, [], w + 1, n, _, h => by rw [eat_nil] at h; cases h
  | 0, t :: ts, w + 1, n, hl, h => by simp at hl
  | m + 1, t :: ts, w + 1, n, hl, h => by
    rw [eat_cons] at h
    split at h
    · cases h
    · rename_i hk
      rw [Nat.add_comm w, eat_add] at h
      cases h1 : eat ts (arF t.1).toNat with
      | none => rw [h1] at h; cases h
      | some n1 =>
        rw [h1] at h
        simp only [Option.bind_some] at h
        cases h2 : eat (ts.drop n1) w with
        | none => rw [h2] at h; cases h
        | some n2 =>
          rw [h2] at h
          have e : n1 + n2 + 1 = n := by simpa using h
          subst e
          have hl2 : ts.length ≤ m := by simpa using hl
          obtain ⟨d1, e1, x1⟩ := exs_of m ts _ n1 hl2 h1
          obtain ⟨d2, e2, x2⟩ := exs_of m (ts.drop n1) w n2 (by rw [List.length_drop]; omega) h2
          refine ⟨max (d1 + 1) d2, max (e1 + aggN t.1) e2, ?_⟩
          rw [List.take_succ_cons, List.take_add]
          exact .cons (by omega) x1 x2

/-- the top of the stack has room for so many -/
def Room (w : Nat) : List (Int × Bool) → Prop
  | [] => True
  | (l, _) :: _ => (w : Int) ≤ l
def popN : Nat → List (Int × Bool) → List (Int × Bool)
  | 0, S => S
  | w + 1, S => popN w (popD S)
theorem popN_all : ∀ (k : Nat) (l : Int) (o : Bool) (S : List (Int × Bool)), l = (k : Int) + 1 → popN (k + 1) ((l, o) :: S) = popD S
  | 0, l, o, S, h => by
    subst h
    simp [popN, popD]
  | k + 1, l, o, S, h => by
    have e : popD ((l, o) :: S) = (l - 1, o) :: S := by
      unfold popD
      rw [if_neg (by omega)]
    show popN (k + 1) (popD ((l, o) :: S)) = popD S
    rw [e]
    exact popN_all k (l - 1) o S (by omega)
/-- behind w ≥ 2 expressions' first the stack is as high as before -/
theorem popD_high {w : Nat} {S : List (Int × Bool)} (h : Room (w + 2) S) : Room (w + 1) (popD S) ∧ (popD S).length = S.length ∧ insF (popD S) = insF S := by
  cases S with
  | nil => exact ⟨trivial, rfl, rfl⟩
  | cons x r =>
    obtain ⟨l, o⟩ := x
    have hl : ((w + 2 : Nat) : Int) ≤ l := h
    have e : popD ((l, o) :: r) = (l - 1, o) :: r := by
      unfold popD
      rw [if_neg (by omega)]
    rw [e]
    refine ⟨?_, rfl, rfl⟩
    show ((w + 1 : Nat) : Int) ≤ l - 1
    omega
/-- levels of expressions that are read on a stack -/
theorem Exs.lev {w : Nat} {a : List (Int × Int)} {d n : Nat} (h : Exs w a d n) : ∀ (rest : List (Int × Int)) (S : List (Int × Bool)) (D N : Nat), Room w S →
    levG (a ++ rest) S D N = levG rest (popN w S) (max D (if w = 0 then 0 else S.length + d)) (max N (if w = 0 then 0 else insF S + n)) := by
  induction h with
  | nil =>
    intro rest S D N _
    simp [popN]
  | cons ha hb hc ih1 ih2 =>
    rename_i t k j d n d' n' b c
    intro rest S D N hr
    have hins : insF ((arF t.1, aggF t.1) :: S) = insF S + aggN t.1 := by
      unfold insF aggN
      rw [List.countP_cons]
    have step : levG ((t :: (b ++ c)) ++ rest) S D N = levG (b ++ (c ++ rest)) (popF (((k : Int), aggF t.1) :: S)) (max D (S.length + 1)) (max N (insF S + aggN t.1)) := by
      rw [List.cons_append, List.append_assoc]
      show levG (b ++ (c ++ rest)) (popF ((arF t.1, aggF t.1) :: S)) _ (max N (insF ((arF t.1, aggF t.1) :: S))) = _
      rw [hins, ha]
    have mid : levG ((t :: (b ++ c)) ++ rest) S D N = levG (c ++ rest) (popD S) (max D (S.length + (d + 1))) (max N (insF S + (n + aggN t.1))) := by
      rw [step]
      cases k with
      | zero =>
        obtain ⟨rfl, rfl, rfl⟩ := hb.zero
        have e : popF ((((0 : Nat) : Int), aggF t.1) :: S) = popD S := by simp [popF]
        rw [e, List.nil_append]
        congr 1
        · omega
      | succ k =>
        have e : popF ((((k + 1 : Nat) : Int), aggF t.1) :: S) = (((k + 1 : Nat) : Int), aggF t.1) :: S := popF_done (by omega)
        rw [e, ih1 (c ++ rest) _ _ _ (by show ((k + 1 : Nat) : Int) ≤ ((k + 1 : Nat) : Int); omega), popN_all k _ _ _ (by omega)]
        have hi2 : insF ((((k + 1 : Nat) : Int), aggF t.1) :: S) = insF S + aggN t.1 := by
          unfold insF aggN
          rw [List.countP_cons]
        rw [if_neg (by omega), if_neg (by omega), hi2, List.length_cons]
        congr 1
        · omega
        · omega
    rw [mid]
    cases j with
    | zero =>
      obtain ⟨rfl, rfl, rfl⟩ := hc.zero
      rw [List.nil_append]
      show levG rest (popD S) _ _ = levG rest (popN 0 (popD S)) _ _
      rw [if_neg (by omega), if_neg (by omega)]
      unfold popN
      congr 1
      omega
    | succ j =>
      obtain ⟨h1, h2, h3⟩ := popD_high hr
      rw [ih2 rest (popD S) _ _ h1, if_neg (by omega), if_neg (by omega), if_neg (by omega), if_neg (by omega), h2, h3]
      show levG rest (popN (j + 1) (popD S)) _ _ = levG rest (popN (j + 1) (popD S)) _ _
      congr 1
      · omega
      · omega
theorem Exs.levF {a : List (Int × Int)} {d n : Nat} (h : Exs 1 a d n) : levF a = (d, n) := by
  have := h.lev [] [] 0 0 trivial
  rw [List.append_nil] at this
  unfold Go.Proofs.Ytckofngclgkajaa.levF
  rw [this]
  simp [levG, insF]
/-- a list that is one expression -/
theorem one_exs {xs : List (Int × Int)} (h : eat xs 1 = some xs.length) : Exs 1 xs (levF xs).1 (levF xs).2 := by
  obtain ⟨d, n, hx⟩ := exs_of xs.length xs 1 xs.length (Nat.le_refl _) h
  rw [List.take_length] at hx
  rw [hx.levF]
  exact hx
theorem oneB_iff {xs : List (Int × Int)} : oneB xs = true ↔ eat xs 1 = some xs.length := by
  unfold oneB
  rw [decide_eq_true_eq]
  constructor
  · rintro ⟨h0, h⟩
    unfold endF at h
    rw [if_pos (by omega)] at h
    simp only [Int.toNat_zero, List.drop_zero] at h
    split at h
    · rename_i n hn
      rw [hn]
      congr 1
      omega
    · omega
  · intro h
    have := eat_le h
    refine ⟨by omega, ?_⟩
    have h2 := endF_some (xs := xs) (p := 0) (n := xs.length) (by simpa using h)
    simpa using h2
/-- every part is an expression, no deeper, and less deep if it is a proper part of one expression -/
theorem Exs.part {w : Nat} {a : List (Int × Int)} {d n : Nat} (h : Exs w a d n) : ∀ i, i < a.length → ∃ m d' n', eat (a.drop i) 1 = some m ∧ Exs 1 ((a.drop i).take m) d' n' ∧ d' ≤ d ∧ n' ≤ n ∧ (w = 1 → i ≠ 0 → d' < d) := by
  induction h with
  | nil => intro i hi; simp at hi
  | cons ha hb hc ih1 ih2 =>
    rename_i t k j d n d' n' b c
    intro i hi
    cases i with
    | zero =>
      have hx := Exs.cons ha hb Exs.nil
      rw [List.append_nil] at hx
      refine ⟨b.length + 1, max (d + 1) 0, max (n + aggN t.1) 0, ?_, ?_, by omega, by omega, fun _ h => absurd rfl h⟩
      · rw [List.drop_zero]
        have := eat_part c hx.eats
        rwa [List.cons_append, List.length_cons] at this
      · rw [List.drop_zero, List.take_succ_cons, List.take_append_of_le_length (Nat.le_refl _), List.take_length]
        exact hx
    | succ i =>
      rw [List.drop_succ_cons]
      by_cases hib : i < b.length
      · obtain ⟨m, d1, n1, h1, h2, h3, h4, _⟩ := ih1 i hib
        have hm := (eat_le h1).2
        rw [List.drop_append_of_le_length (by omega)]
        refine ⟨m, d1, n1, eat_part c h1, ?_, by omega, by omega, fun _ _ => by omega⟩
        rw [List.take_append_of_le_length hm]
        exact h2
      · have hlen : i + 1 < b.length + c.length + 1 := by simpa using hi
        obtain ⟨m, d1, n1, h1, h2, h3, h4, _⟩ := ih2 (i - b.length) (by omega)
        have e : (b ++ c).drop i = c.drop (i - b.length) := by
          rw [List.drop_append, List.drop_of_length_le (by omega), List.nil_append]
        rw [e]
        refine ⟨m, d1, n1, h1, h2, by omega, by omega, fun hw _ => ?_⟩
        have hj : j = 0 := by omega
        subst hj
        obtain ⟨rfl, _, _⟩ := hc.zero
        simp at hlen
        omega
/-- the places of the operands -/
theorem place_eat {xs : List (Int × Int)} {p K N : Nat} (h : eat (xs.drop (p + 1)) K = some N) : ∀ k, k ≤ K → ∃ n, eat (xs.drop (p + 1)) k = some n ∧ placeF xs p k = (p + 1 + n : Nat)
  | 0, _ => ⟨0, eat_zero _, by unfold placeF; omega⟩
  | k + 1, hk => by
    obtain ⟨n, h1, h2⟩ := place_eat h k (by omega)
    rw [show K = k + (1 + (K - k - 1)) by omega, eat_add, h1, Option.bind_some, eat_add] at h
    cases h3 : eat ((xs.drop (p + 1)).drop n) 1 with
    | none => rw [h3] at h; cases h
    | some m =>
      refine ⟨n + m, by rw [eat_add, h1, Option.bind_some, h3]; rfl, ?_⟩
      rw [List.drop_drop] at h3
      show endF xs (placeF xs p k) = _
      rw [h2, endF_some h3]
      omega
theorem end_place {xs : List (Int × Int)} {p m : Nat} (hp : p < xs.length) (h : eat (xs.drop p) 1 = some m) : 0 ≤ arF (toA xs p) ∧ endF xs p = placeF xs p (arF (toA xs p)).toNat ∧ ∃ N, eat (xs.drop (p + 1)) (arF (toA xs p)).toNat = some N := by
  have he := endF_some h
  rw [drop_tm hp, eat_cons] at h
  split at h
  · cases h
  · rename_i hk
    dsimp only at h hk
    rw [Nat.zero_add] at h
    cases hn : eat (xs.drop (p + 1)) (arF (toA xs p)).toNat with
    | none => rw [hn] at h; cases h
    | some N =>
      rw [hn] at h
      have e : N + 1 = m := by simpa using h
      obtain ⟨n, h1, h2⟩ := place_eat hn _ (Nat.le_refl _)
      rw [hn] at h1
      cases h1
      exact ⟨by omega, by rw [he, h2]; omega, N, rfl⟩
/-- in one expression an expression begins at each place -/
theorem one_part {xs : List (Int × Int)} (h : oneB xs = true) {p : Nat} (hp : p < xs.length) : ∃ m, eat (xs.drop p) 1 = some m := by
  obtain ⟨m, _, _, h1, _⟩ := (one_exs (oneB_iff.1 h)).part p hp
  exact ⟨m, h1⟩
/-- a proper beginning is no expression; nor is one with a term behind it -/
theorem one_cut {xs : List (Int × Int)} (h : oneB xs = true) {m : Nat} (hm : m < xs.length) : eat (xs.take m) 1 = none := by
  cases hk : eat (xs.take m) 1 with
  | none => rfl
  | some k =>
    have h1 := eat_part (xs.drop m) hk
    rw [List.take_append_drop, oneB_iff.1 h] at h1
    have h2 := (eat_le hk).2
    rw [List.length_take] at h2
    injection h1 with h1
    omega
theorem one_long {xs : List (Int × Int)} (h : oneB xs = true) (t : Int × Int) : eat (xs ++ [t]) 1 = some xs.length := eat_part [t] (oneB_iff.1 h)
end Go.Proofs.Ytckofngclgkajaa
namespace Go.Proofs.Ytckofngclgkajaa
set_option maxRecDepth 100000

/-! ### Trees -/
inductive Ex where
  | leaf (t : Int × Int)
  | un (t : Int × Int) (a : Ex)
  | bi (t : Int × Int) (a b : Ex)
  | cond (t : Int × Int) (c a b : Ex)
def Ex.flat : Ex → List (Int × Int)
  | .leaf t => [t]
  | .un t a => t :: a.flat
  | .bi t a b => t :: (a.flat ++ b.flat)
  | .cond t c a b => t :: (c.flat ++ (a.flat ++ b.flat))
def Ex.top : Ex → Int × Int
  | .leaf t => t
  | .un t _ => t
  | .bi t _ _ => t
  | .cond t _ _ _ => t
/-- each operation has as many operands as it wants -/
def Ex.wf : Ex → Prop
  | .leaf t => arF t.1 = 0
  | .un t a => arF t.1 = 1 ∧ a.wf
  | .bi t a b => arF t.1 = 2 ∧ a.wf ∧ b.wf
  | .cond t c a b => arF t.1 = 3 ∧ c.wf ∧ a.wf ∧ b.wf
def flats (L : List Ex) : List (Int × Int) := (L.map Ex.flat).flatten
theorem exs_trees {w : Nat} {a : List (Int × Int)} {d n : Nat} (h : Exs w a d n) : ∃ L : List Ex, L.length = w ∧ flats L = a ∧ ∀ x ∈ L, x.wf := by
  induction h with
  | nil => exact ⟨[], rfl, rfl, by simp⟩
  | @cons t k j d n d' n' b c ha hb hc ih1 ih2 =>
    obtain ⟨L1, l1, f1, w1⟩ := ih1
    obtain ⟨L2, l2, f2, w2⟩ := ih2
    have key : ∃ x : Ex, x.flat = t :: b ∧ x.wf := by
      have h3 := (arF_le t.1).2
      match L1, l1, f1, w1 with
      | [], l1, f1, _ =>
        refine ⟨.leaf t, ?_, ?_⟩
        · rw [← f1]; rfl
        · show arF t.1 = 0
          simp at l1
          omega
      | [x], l1, f1, w1 =>
        refine ⟨.un t x, ?_, ?_, w1 x (by simp)⟩
        · rw [← f1]
          simp [Ex.flat, flats]
        · simp at l1
          omega
      | [x, y], l1, f1, w1 =>
        refine ⟨.bi t x y, ?_, ?_, w1 x (by simp), w1 y (by simp)⟩
        · rw [← f1]
          simp [Ex.flat, flats]
        · simp at l1
          omega
      | [x, y, z], l1, f1, w1 =>
        refine ⟨.cond t x y z, ?_, ?_, w1 x (by simp), w1 y (by simp), w1 z (by simp)⟩
        · rw [← f1]
          simp [Ex.flat, flats]
        · simp at l1
          omega
      | x :: y :: z :: u :: R, l1, _, _ =>
        simp at l1
        omega
    obtain ⟨x, hx, hw⟩ := key
    refine ⟨x :: L2, by simp [l2], ?_, ?_⟩
    · show x.flat ++ flats L2 = t :: (b ++ c)
      rw [hx, f2]
      rfl
    · intro y hy
      rcases List.mem_cons.1 hy with rfl | hy
      · exact hw
      · exact w2 y hy
/-- one expression is a tree -/
theorem one_tree {xs : List (Int × Int)} (h : oneB xs = true) : ∃ x : Ex, x.flat = xs ∧ x.wf := by
  obtain ⟨L, l, f, w⟩ := exs_trees (one_exs (oneB_iff.1 h))
  match L, l, f, w with
  | [x], _, f, w => exact ⟨x, by rw [← f]; simp [flats], w x (by simp)⟩

/-! ### Words of operations, numbers, names -/
def wordL : List Bytes := [[], [], [116, 114, 117, 101], [102, 97, 108, 115, 101], [110, 111, 110, 101], [], [110], [105, 100, 115], [105, 100], [100, 101, 103], [114, 111, 111, 116], [113], [], [113, 46, 105, 100], [113, 46, 100, 101, 103], [113, 46, 114, 111, 111, 116], [113, 46, 119, 101, 105, 103, 104, 116], [113, 46, 98, 97, 99, 107], [45], [33], [97, 108, 108], [115, 111, 109, 101], [99, 111, 117, 110, 116], [102, 105, 114, 115, 116], [109, 105, 110], [109, 97, 120], [115, 117, 109], [109, 101, 120], [115, 101, 99, 111, 110, 100], [104, 101, 97, 100], [42], [47], [37], [43], [45], [61, 61], [33, 61], [60], [60, 61], [62], [62, 61], [38, 38], [124, 124], []]
def wordF (op : Int) : Bytes := wordL.getD op.toNat []
/-- the level of an operation -/
def lvF (op : Int) : Nat := if op = 43 then 1 else if op = 42 then 2 else if op = 41 then 3 else if 35 ≤ op ∧ op ≤ 40 then 4 else if op = 33 ∨ op = 34 then 5 else if 30 ≤ op ∧ op ≤ 32 then 6 else if op = 18 ∨ op = 19 then 7 else 8
def digit (d : Nat) : UInt8 := UInt8.ofNat (48 + d)
theorem digit_nat {d : Nat} (h : d < 10) : (digit d).toNat = 48 + d := by
  unfold digit
  rw [UInt8.toNat_ofNat']
  omega
def decB (n : Nat) : Bytes := if n < 10 then [digit n] else decB (n / 10) ++ [digit (n % 10)]
theorem dec_small {n : Nat} (h : n < 10) : decB n = [digit n] := by unfold decB; rw [if_pos h]
theorem dec_big {n : Nat} (h : 10 ≤ n) : decB n = decB (n / 10) ++ [digit (n % 10)] := by rw [decB, if_neg (by omega)]
theorem digit_dgt {d : Nat} (h : d < 10) : isDgt (digit d) = true := by
  unfold isDgt
  rw [digit_nat h]
  simp
  omega
theorem run_full {p : UInt8 → Bool} : ∀ {l : Bytes}, (∀ b ∈ l, p b = true) → runF p l = l.length
  | [], _ => rfl
  | x :: l, h => by
    unfold runF
    rw [if_pos (h x (by simp)), run_full (fun b hb => h b (by simp [hb]))]
    rfl
theorem dec_facts (n : Nat) : (∀ b ∈ decB n, isDgt b = true) ∧ valF (decB n) = n ∧ (∃ b l, decB n = b :: l ∧ (l = [] ∨ b ≠ 48) ∧ (0 < n → b ≠ 48)) := by
  induction n using Nat.strongRecOn with
  | ind n ih =>
    by_cases h : n < 10
    · rw [dec_small h]
      refine ⟨fun b hb => ?_, ?_, digit n, [], rfl, .inl rfl, fun h0 e => ?_⟩
      · simp at hb
        rw [hb]
        exact digit_dgt h
      · show 10 * 0 + ((digit n).toNat - 48) = n
        rw [digit_nat h]
        omega
      · have := congrArg UInt8.toNat e
        rw [digit_nat h] at this
        simp at this
        omega
    · obtain ⟨h1, h2, b, l, h3, h4, h5⟩ := ih (n / 10) (by omega)
      rw [dec_big (by omega)]
      refine ⟨fun b hb => ?_, ?_, b, l ++ [digit (n % 10)], by rw [h3]; rfl, .inr (h5 (by omega)), fun _ => h5 (by omega)⟩
      · rcases List.mem_append.1 hb with hb | hb
        · exact h1 b hb
        · simp at hb
          rw [hb]
          exact digit_dgt (by omega)
      · rw [val_snoc, h2, digit_nat (by omega)]
        omega
theorem dec_tok {n : Nat} (h : n ≤ 1073741824) : tokF (decB n) = .inr ⟨2, (decB n).length, n⟩ := by
  obtain ⟨h1, h2, b, l, h3, h4, h5⟩ := dec_facts n
  have hr := run_full h1
  rw [h3] at h1 h2 hr ⊢
  have hb := h1 b (by simp)
  have hl : isLet b = false := by
    unfold isDgt at hb
    unfold isLet
    simp at hb ⊢
    omega
  unfold tokF
  dsimp only
  rw [hl, if_neg (by decide), if_pos hb, hr, List.take_length, h2, if_neg]
  rw [Bool.not_eq_true, Bool.or_eq_false_iff]
  refine ⟨?_, by simp; omega⟩
  rcases h4 with rfl | h4
  · simp
  · simp [h4]
theorem look_mem {T : List (Bytes × Int)} {l : Bytes} (h : lookW T l ≠ 0) : ∃ x ∈ T, x.1 = l := by
  unfold lookW at h
  cases hf : T.find? fun x => x.1 == l with
  | none => rw [hf] at h; exact absurd rfl h
  | some x => exact ⟨x, List.mem_of_find?_eq_some hf, by simpa using List.find?_some hf⟩
theorem look_free {T : List (Bytes × Int)} (hT : T.all (fun x => wordsL.contains x.1) = true) {l : Bytes} (h : resF l = false) : lookW T l = 0 := by
  rcases Classical.em (lookW T l = 0) with h0 | h0
  · exact h0
  · obtain ⟨x, hx, rfl⟩ := look_mem h0
    rw [List.all_eq_true] at hT
    have := hT x hx
    unfold resF at h
    rw [h] at this
    cases this
/-- what a name is as a word -/
structure NameW (w : Bytes) : Prop where
  tok : tokF w = .inr ⟨1, w.length, 0⟩
  fact : factF w = 0
  agg : aggW w = 0
  field : fieldF w = 0
  q : w ≠ [113]
  br : w ≠ [40]
  head : ∃ b l, w = b :: l ∧ isLet b = true
  len : w.length ≤ 24
theorem name_word {w : Bytes} (h : nameF w = true) : NameW w := by
  cases w with
  | nil => cases h
  | cons x r =>
    unfold nameF at h
    simp only [Bool.and_eq_true, decide_eq_true_eq, Bool.not_eq_true'] at h
    obtain ⟨⟨⟨h1, h2⟩, h3⟩, h4⟩ := h
    refine ⟨?_, look_free (by decide) h4, look_free (by decide) h4, look_free (by decide) h4, ?_, ?_, ⟨x, r, rfl, h2⟩, h1⟩
    · unfold tokF
      dsimp only
      rw [if_pos h2, h3, if_neg (by omega)]
    · intro e
      rw [e] at h4
      revert h4
      decide
    · intro e
      injection e with e1 e2
      subst e1
      revert h2
      decide
theorem NameW.kind {w : Bytes} (h : NameW w) : kindW w ≠ 2 := by
  unfold kindW
  rw [h.tok]
  show (1 : Nat) ≠ 2
  decide
theorem idx_app {a r : List Bytes} {x : Bytes} (h : idxN a x = none) : idxN (a ++ x :: r) x = some a.length := by
  induction a with
  | nil => simp [idxN]
  | cons y a ih =>
    rw [List.cons_append]
    unfold idxN at h ⊢
    split at h
    · cases h
    · rename_i hy
      rw [if_neg hy]
      cases hk : idxN a x with
      | some k => rw [hk] at h; cases h
      | none => rw [ih hk]; rfl
theorem goodN_at : ∀ {l done : List Bytes}, goodN done l = true → ∀ i (h : i < l.length), nameF l[i] = true ∧ idxN (done ++ l.take i) l[i] = none
  | [], _, _, i, h => by simp at h
  | x :: r, done, h, i, hi => by
    unfold goodN at h
    simp only [Bool.and_eq_true, decide_eq_true_eq] at h
    obtain ⟨⟨h1, h2⟩, h3⟩ := h
    cases i with
    | zero =>
      refine ⟨h1, ?_⟩
      show idxN (done ++ []) x = none
      rw [List.append_nil]
      unfold idxI at h2
      cases hk : idxN done x with
      | none => rfl
      | some k => rw [hk] at h2; dsimp only at h2; omega
    | succ i =>
      have := goodN_at h3 i (by simpa using hi)
      simpa using this
theorem good_at {ns : List Bytes} (h : goodF ns = true) {i : Nat} (hi : i < ns.length) : nameF (ns.getD i []) = true ∧ idxN ns (ns.getD i []) = some i := by
  unfold goodF at h
  simp only [Bool.and_eq_true, decide_eq_true_eq] at h
  obtain ⟨h1, h2⟩ := goodN_at h.2 i hi
  have e : ns.getD i [] = ns[i] := by rw [List.getD_eq_getElem?_getD, List.getElem?_eq_getElem hi]; rfl
  rw [e]
  refine ⟨h1, ?_⟩
  rw [List.nil_append] at h2
  have h3 := idx_app (r := ns.drop (i + 1)) h2
  rw [← List.drop_eq_getElem_cons hi, List.take_append_drop, List.length_take, Nat.min_eq_left (by omega)] at h3
  exact h3
end Go.Proofs.Ytckofngclgkajaa
namespace Go.Proofs.Ytckofngclgkajaa
set_option maxRecDepth 100000

theorem tree_eat : ∀ (x : Ex), x.wf → ∀ r : List (Int × Int), eat (x.flat ++ r) 1 = some x.flat.length
  | .leaf t, h, r => by
    have h0 : arF t.1 = 0 := h
    show eat (t :: r) 1 = some 1
    rw [eat_cons, if_neg (by omega), h0]
    show (eat r 0).map (· + 1) = some 1
    rw [eat_zero]
    rfl
  | .un t a, h, r => by
    have h0 : arF t.1 = 1 := h.1
    show eat (t :: (a.flat ++ r)) 1 = some (a.flat.length + 1)
    rw [eat_cons, if_neg (by omega), h0]
    show (eat (a.flat ++ r) 1).map (· + 1) = _
    rw [tree_eat a h.2]
    rfl
  | .bi t a b, h, r => by
    have h0 : arF t.1 = 2 := h.1
    show eat (t :: ((a.flat ++ b.flat) ++ r)) 1 = some ((a.flat ++ b.flat).length + 1)
    rw [eat_cons, if_neg (by omega), h0, List.append_assoc]
    show (eat (a.flat ++ (b.flat ++ r)) (1 + 1)).map (· + 1) = _
    rw [eat_add, tree_eat a h.2.1, Option.bind_some, List.drop_left, tree_eat b h.2.2]
    simp
  | .cond t c a b, h, r => by
    have h0 : arF t.1 = 3 := h.1
    show eat (t :: ((c.flat ++ (a.flat ++ b.flat)) ++ r)) 1 = some ((c.flat ++ (a.flat ++ b.flat)).length + 1)
    rw [eat_cons, if_neg (by omega), h0, List.append_assoc, List.append_assoc]
    show (eat (c.flat ++ (a.flat ++ (b.flat ++ r))) (1 + (1 + 1))).map (· + 1) = _
    rw [eat_add, tree_eat c h.2.1, Option.bind_some, List.drop_left, eat_add, tree_eat a h.2.2.1, Option.bind_some, List.drop_left, tree_eat b h.2.2.2]
    simp
/-- a tree stands at a place of a list -/
def Sits (xs : List (Int × Int)) (p : Nat) (x : Ex) : Prop := ∃ r, xs.drop p = x.flat ++ r
theorem flat_top (x : Ex) : ∃ r, x.flat = x.top :: r := by
  cases x <;> exact ⟨_, rfl⟩
theorem Sits.lt {xs : List (Int × Int)} {p : Nat} {x : Ex} (h : Sits xs p x) : p < xs.length := by
  obtain ⟨r, h⟩ := h
  obtain ⟨q, hq⟩ := flat_top x
  have := congrArg List.length h
  rw [hq] at this
  simp at this
  omega
theorem Sits.le {xs : List (Int × Int)} {p : Nat} {x : Ex} (h : Sits xs p x) : p + x.flat.length ≤ xs.length := by
  have h1 := h.lt
  obtain ⟨r, h⟩ := h
  have := congrArg List.length h
  simp at this
  omega
theorem Sits.top {xs : List (Int × Int)} {p : Nat} {x : Ex} (h : Sits xs p x) : toA xs p = x.top.1 ∧ wtA xs p = x.top.2 := by
  have h1 := h.lt
  obtain ⟨r, h⟩ := h
  obtain ⟨q, hq⟩ := flat_top x
  rw [drop_tm h1, hq, List.cons_append] at h
  injection h with h _
  rw [← h]
  exact ⟨rfl, rfl⟩
theorem Sits.end_ {xs : List (Int × Int)} {p : Nat} {x : Ex} (h : Sits xs p x) (hw : x.wf) : endF xs p = (p + x.flat.length : Nat) := by
  obtain ⟨r, h⟩ := h
  exact endF_some (by rw [h]; exact tree_eat x hw r)
theorem Sits.un {xs : List (Int × Int)} {p : Nat} {t : Int × Int} {a : Ex} (h : Sits xs p (.un t a)) : Sits xs (p + 1) a := by
  obtain ⟨r, h⟩ := h
  exact ⟨r, by rw [← List.drop_drop, h]; rfl⟩
theorem Sits.bi1 {xs : List (Int × Int)} {p : Nat} {t : Int × Int} {a b : Ex} (h : Sits xs p (.bi t a b)) : Sits xs (p + 1) a := by
  obtain ⟨r, h⟩ := h
  exact ⟨b.flat ++ r, by rw [← List.drop_drop, h, ← List.append_assoc]; rfl⟩
theorem Sits.bi2 {xs : List (Int × Int)} {p : Nat} {t : Int × Int} {a b : Ex} (h : Sits xs p (.bi t a b)) : Sits xs (p + 1 + a.flat.length) b := by
  obtain ⟨r, h⟩ := h
  refine ⟨r, ?_⟩
  have e : xs.drop (p + 1) = a.flat ++ (b.flat ++ r) := by
    rw [← List.drop_drop, h, ← List.append_assoc]
    rfl
  rw [← List.drop_drop, e, List.drop_left]
theorem Sits.c1 {xs : List (Int × Int)} {p : Nat} {t : Int × Int} {c a b : Ex} (h : Sits xs p (.cond t c a b)) : Sits xs (p + 1) c := by
  obtain ⟨r, h⟩ := h
  exact ⟨a.flat ++ b.flat ++ r, by rw [← List.drop_drop, h, ← List.append_assoc]; rfl⟩
theorem Sits.c2 {xs : List (Int × Int)} {p : Nat} {t : Int × Int} {c a b : Ex} (h : Sits xs p (.cond t c a b)) : Sits xs (p + 1 + c.flat.length) a := by
  obtain ⟨r, h⟩ := h
  refine ⟨b.flat ++ r, ?_⟩
  have e : xs.drop (p + 1) = c.flat ++ (a.flat ++ (b.flat ++ r)) := by
    rw [← List.drop_drop, h]
    show (c.flat ++ (a.flat ++ b.flat)) ++ r = _
    simp
  rw [← List.drop_drop, e, List.drop_left]
theorem Sits.c3 {xs : List (Int × Int)} {p : Nat} {t : Int × Int} {c a b : Ex} (h : Sits xs p (.cond t c a b)) : Sits xs (p + 1 + c.flat.length + a.flat.length) b := by
  obtain ⟨r, h⟩ := h
  refine ⟨r, ?_⟩
  have e : xs.drop (p + 1) = c.flat ++ (a.flat ++ (b.flat ++ r)) := by
    rw [← List.drop_drop, h]
    show (c.flat ++ (a.flat ++ b.flat)) ++ r = _
    simp
  rw [← List.drop_drop, ← List.drop_drop, e, List.drop_left, List.drop_left]
theorem opd_place {xs : List (Int × Int)} {p k : Nat} {x : Ex} (h : Sits xs p x) (hw : x.wf) (hk : (k : Int) < arF x.top.1) : opdF xs p k = placeF xs p k := by
  unfold opdF
  rw [h.end_ hw, Int.toNat_natCast, Int.toNat_natCast, h.top.1, if_neg]
  omega
theorem opd_bi {xs : List (Int × Int)} {p : Nat} {t : Int × Int} {a b : Ex} (h : Sits xs p (.bi t a b)) (hw : (Ex.bi t a b).wf) : opdF xs p 1 = (p + 1 + a.flat.length : Nat) := by
  have e := opd_place (k := 1) h hw (by show ((1 : Nat) : Int) < arF t.1; have := hw.1; omega)
  rw [show ((1 : Nat) : Int) = 1 from rfl] at e
  rw [e]
  show endF xs ((p : Int) + 1) = _
  rw [show (p : Int) + 1 = ((p + 1 : Nat) : Int) by omega]
  exact h.bi1.end_ hw.2.1
theorem opd_c2 {xs : List (Int × Int)} {p : Nat} {t : Int × Int} {c a b : Ex} (h : Sits xs p (.cond t c a b)) (hw : (Ex.cond t c a b).wf) : opdF xs p 1 = (p + 1 + c.flat.length : Nat) := by
  have e := opd_place (k := 1) h hw (by show ((1 : Nat) : Int) < arF t.1; have := hw.1; omega)
  rw [show ((1 : Nat) : Int) = 1 from rfl] at e
  rw [e]
  show endF xs ((p : Int) + 1) = _
  rw [show (p : Int) + 1 = ((p + 1 : Nat) : Int) by omega]
  exact h.c1.end_ hw.2.1
theorem opd_c3 {xs : List (Int × Int)} {p : Nat} {t : Int × Int} {c a b : Ex} (h : Sits xs p (.cond t c a b)) (hw : (Ex.cond t c a b).wf) : opdF xs p 2 = (p + 1 + c.flat.length + a.flat.length : Nat) := by
  have e := opd_place (k := 2) h hw (by show ((2 : Nat) : Int) < arF t.1; have := hw.1; omega)
  rw [show ((2 : Nat) : Int) = 2 from rfl] at e
  rw [e]
  show endF xs (endF xs ((p : Int) + 1)) = _
  rw [show (p : Int) + 1 = ((p + 1 : Nat) : Int) by omega, h.c1.end_ hw.2.1]
  exact h.c2.end_ hw.2.2.1
end Go.Proofs.Ytckofngclgkajaa
namespace Go.Proofs.Ytckofngclgkajaa
set_option maxRecDepth 100000

def knownK (k : Int) : Bool := decide (1 ≤ k ∧ k ≤ 3)
def leafK (t : Int × Int) (ks : List Int) (bound : Bool) : Int :=
  if bound = false ∧ 11 ≤ t.1 then 0
  else if t.1 = 2 ∨ t.1 = 3 ∨ t.1 = 10 ∨ t.1 = 15 then 2
  else if t.1 = 4 ∨ t.1 = 11 ∨ t.1 = 17 then 3
  else if t.1 = 5 ∨ t.1 = 12 then idA ks t.2.toNat
  else 1
/-- the type that an operation with one operand wants, and the one that it gives -/
def wantK (op : Int) : Int := if 19 ≤ op ∧ op ≤ 23 then 2 else 1
def giveK (op : Int) : Int := if 19 ≤ op ∧ op ≤ 21 then 2 else if op = 23 then 3 else 1
def singleK (op a : Int) : Int := if a = wantK op then giveK op else 0
def doubleK (op a b : Int) : Int :=
  if op = 35 ∨ op = 36 then (if a = b ∧ a ≠ 0 then 2 else 0)
  else if op = 41 ∨ op = 42 then (if a = 2 ∧ b = 2 then 2 else 0)
  else if a = 1 ∧ b = 1 then (if 37 ≤ op ∧ op ≤ 40 then 2 else 1) else 0
def condK (c a b : Int) : Int := if c = 2 ∧ a = b then a else 0
def Ex.kind (ks : List Int) : Bool → Ex → Int
  | b, .leaf t => leafK t ks b
  | b, .un t a => singleK t.1 (a.kind ks (b || aggF t.1))
  | b, .bi t x y => doubleK t.1 (x.kind ks b) (y.kind ks b)
  | b, .cond _ c x y => condK (c.kind ks b) (x.kind ks b) (y.kind ks b)
def Ex.args (n : Int) (x : Ex) : Prop := x.flat.all (fun t => argB t n) = true
theorem all_app7 {α : Type} {f : α → Bool} {a b : List α} (h : (a ++ b).all f = true) : a.all f = true ∧ b.all f = true := by
  rw [List.all_append, Bool.and_eq_true] at h
  exact h
theorem Ex.args_leaf {n : Int} {t : Int × Int} (h : (Ex.leaf t).args n) : argB t n = true := by
  unfold Ex.args Ex.flat at h
  simpa using h
theorem Ex.args_un {n : Int} {t : Int × Int} {a : Ex} (h : (Ex.un t a).args n) : argB t n = true ∧ a.args n := by
  unfold Ex.args at h ⊢
  rw [Ex.flat, List.all_cons, Bool.and_eq_true] at h
  exact h
theorem Ex.args_bi {n : Int} {t : Int × Int} {a b : Ex} (h : (Ex.bi t a b).args n) : argB t n = true ∧ a.args n ∧ b.args n := by
  unfold Ex.args at h ⊢
  rw [Ex.flat, List.all_cons, Bool.and_eq_true] at h
  exact ⟨h.1, all_app7 h.2⟩
theorem Ex.args_cond {n : Int} {t : Int × Int} {c a b : Ex} (h : (Ex.cond t c a b).args n) : argB t n = true ∧ c.args n ∧ a.args n ∧ b.args n := by
  unfold Ex.args at h ⊢
  rw [Ex.flat, List.all_cons, Bool.and_eq_true] at h
  exact ⟨h.1, (all_app7 h.2).1, all_app7 (all_app7 h.2).2⟩
/-! ### Its laws -/
def kindsOk (ks : List Int) : Prop := ∀ k ∈ ks, 1 ≤ k ∧ k ≤ 3
theorem idA_kind {ks : List Int} (h : kindsOk ks) {i : Nat} (hi : i < ks.length) : 1 ≤ idA ks i ∧ idA ks i ≤ 3 := by
  unfold idA
  rw [List.getD_eq_getElem?_getD, List.getElem?_eq_getElem hi]
  exact h _ (List.getElem_mem hi)
theorem leafK_range {ks : List Int} (h : kindsOk ks) {t : Int × Int} (ha : argB t ks.length = true) (b : Bool) : 0 ≤ leafK t ks b ∧ leafK t ks b ≤ 3 := by
  unfold leafK
  split
  · omega
  split
  · omega
  split
  · omega
  split
  · rename_i h5
    unfold argB at ha
    rw [if_neg (by omega), if_pos h5] at ha
    simp at ha
    have := idA_kind h (i := t.2.toNat) (by omega)
    omega
  · omega
theorem singleK_range (op a : Int) : 0 ≤ singleK op a ∧ singleK op a ≤ 3 := by
  unfold singleK giveK
  repeat' split
  all_goals omega
theorem doubleK_range (op a b : Int) : 0 ≤ doubleK op a b ∧ doubleK op a b ≤ 3 := by
  unfold doubleK
  repeat' split
  all_goals omega
theorem kind_range {ks : List Int} (h : kindsOk ks) : ∀ (x : Ex) (b : Bool), x.args ks.length → 0 ≤ x.kind ks b ∧ x.kind ks b ≤ 3
  | .leaf t, b, ha => leafK_range h (Ex.args_leaf ha) b
  | .un t a, b, ha => singleK_range _ _
  | .bi t x y, b, ha => doubleK_range _ _ _
  | .cond t c x y, b, ha => by
    have := kind_range h x b (Ex.args_cond ha).2.2.1
    unfold Ex.kind condK
    split <;> omega
theorem kind_un {ks : List Int} {t : Int × Int} {a : Ex} {b : Bool} (h : (Ex.un t a).kind ks b ≠ 0) : a.kind ks (b || aggF t.1) ≠ 0 := by
  unfold Ex.kind singleK wantK at h
  intro h0
  rw [h0] at h
  split at h <;> split at h <;> first | omega | exact h rfl
theorem kind_bi {ks : List Int} {t : Int × Int} {x y : Ex} {b : Bool} (h : (Ex.bi t x y).kind ks b ≠ 0) : x.kind ks b ≠ 0 ∧ y.kind ks b ≠ 0 := by
  unfold Ex.kind doubleK at h
  repeat' split at h
  all_goals first | exact absurd rfl h | omega
theorem kind_cond {ks : List Int} {t : Int × Int} {c x y : Ex} {b : Bool} (h : (Ex.cond t c x y).kind ks b ≠ 0) : c.kind ks b ≠ 0 ∧ x.kind ks b ≠ 0 ∧ y.kind ks b ≠ 0 := by
  unfold Ex.kind condK at h
  split at h
  · omega
  · exact absurd rfl h
theorem leafK_bound {t : Int × Int} {ks : List Int} (h : leafK t ks false ≠ 0) : leafK t ks true = leafK t ks false := by
  unfold leafK at h ⊢
  rw [if_neg (by simp)]
  by_cases h1 : 11 ≤ t.1
  · rw [if_pos ⟨rfl, h1⟩] at h
    exact absurd rfl h
  · rw [if_neg (by omega : ¬ (false = false ∧ 11 ≤ t.1))]
/-- a bound neighbour more leaves a type as it is -/
theorem kind_bound {ks : List Int} : ∀ (x : Ex), x.kind ks false ≠ 0 → x.kind ks true = x.kind ks false
  | .leaf t, h => leafK_bound h
  | .un t a, h => by
    have h1 := kind_un h
    rw [Bool.false_or] at h1
    unfold Ex.kind
    rw [Bool.true_or, Bool.false_or]
    cases hg : aggF t.1 with
    | true => rfl
    | false =>
      rw [hg] at h1
      rw [kind_bound a h1]
  | .bi t x y, h => by
    have h1 := kind_bi h
    unfold Ex.kind
    rw [kind_bound x h1.1, kind_bound y h1.2]
  | .cond t c x y, h => by
    have h1 := kind_cond h
    unfold Ex.kind
    rw [kind_bound c h1.1, kind_bound x h1.2.1, kind_bound y h1.2.2]
/-- a tree with its terms turned, the operations as they were -/
def Ex.turn (f : Int × Int → Int × Int) : Ex → Ex
  | .leaf t => .leaf (f t)
  | .un t a => .un (f t) (a.turn f)
  | .bi t a b => .bi (f t) (a.turn f) (b.turn f)
  | .cond t c a b => .cond (f t) (c.turn f) (a.turn f) (b.turn f)
theorem turn_flat (f : Int × Int → Int × Int) : ∀ x : Ex, (x.turn f).flat = x.flat.map f
  | .leaf t => rfl
  | .un t a => by simp [Ex.turn, Ex.flat, turn_flat f a]
  | .bi t a b => by simp [Ex.turn, Ex.flat, turn_flat f a, turn_flat f b]
  | .cond t c a b => by simp [Ex.turn, Ex.flat, turn_flat f c, turn_flat f a, turn_flat f b]
theorem turn_wf {f : Int × Int → Int × Int} (hf : ∀ t, (f t).1 = t.1) : ∀ x : Ex, x.wf → (x.turn f).wf
  | .leaf t, h => by show arF (f t).1 = 0; rw [hf]; exact h
  | .un t a, h => ⟨by rw [hf]; exact h.1, turn_wf hf a h.2⟩
  | .bi t a b, h => ⟨by rw [hf]; exact h.1, turn_wf hf a h.2.1, turn_wf hf b h.2.2⟩
  | .cond t c a b, h => ⟨by rw [hf]; exact h.1, turn_wf hf c h.2.1, turn_wf hf a h.2.2.1, turn_wf hf b h.2.2.2⟩
/-- where the leaves keep their types, the tree keeps its own -/
theorem turn_kind {f : Int × Int → Int × Int} {ks ls : List Int} (hf : ∀ t, (f t).1 = t.1) : ∀ (x : Ex) (b : Bool), (∀ t ∈ x.flat, ∀ b, leafK (f t) ls b = leafK t ks b) → (x.turn f).kind ls b = x.kind ks b
  | .leaf t, b, h => h t (by simp [Ex.flat]) b
  | .un t a, b, h => by
    show singleK (f t).1 ((a.turn f).kind ls (b || aggF (f t).1)) = _
    rw [hf, turn_kind hf a _ (fun u hu => h u (by simp [Ex.flat, hu]))]
    rfl
  | .bi t x y, b, h => by
    show doubleK (f t).1 ((x.turn f).kind ls b) ((y.turn f).kind ls b) = _
    rw [hf, turn_kind hf x _ (fun u hu => h u (by simp [Ex.flat, hu])), turn_kind hf y _ (fun u hu => h u (by simp [Ex.flat, hu]))]
    rfl
  | .cond t c x y, b, h => by
    show condK ((c.turn f).kind ls b) ((x.turn f).kind ls b) ((y.turn f).kind ls b) = _
    rw [turn_kind hf c _ (fun u hu => h u (by simp [Ex.flat, hu])), turn_kind hf x _ (fun u hu => h u (by simp [Ex.flat, hu])), turn_kind hf y _ (fun u hu => h u (by simp [Ex.flat, hu]))]
    rfl
/-- a list is spelt by one tree -/
theorem flat_app : ∀ (x y : Ex), x.wf → y.wf → ∀ (r s : List (Int × Int)), x.flat ++ r = y.flat ++ s → x = y ∧ r = s := by
  have head : ∀ {t u : Int × Int} {a b r s : List (Int × Int)}, (t :: a) ++ r = (u :: b) ++ s → t = u ∧ a ++ r = b ++ s := fun h => by
    injection h with h1 h2
    exact ⟨h1, h2⟩
  intro x
  induction x with
  | leaf t =>
    intro y hw hv r s h
    have e : arF t.1 = 0 := hw
    cases y with
    | leaf u =>
      obtain ⟨rfl, h1⟩ := head h
      exact ⟨rfl, h1⟩
    | un u a => obtain ⟨rfl, _⟩ := head h; have := hv.1; omega
    | bi u a b => obtain ⟨rfl, _⟩ := head h; have := hv.1; omega
    | cond u c a b => obtain ⟨rfl, _⟩ := head h; have := hv.1; omega
  | un t a ih =>
    intro y hw hv r s h
    have e := hw.1
    cases y with
    | leaf u => obtain ⟨rfl, _⟩ := head h; have : arF t.1 = 0 := hv; omega
    | un u b =>
      obtain ⟨rfl, h1⟩ := head h
      obtain ⟨rfl, h2⟩ := ih b hw.2 hv.2 r s h1
      exact ⟨rfl, h2⟩
    | bi u b d => obtain ⟨rfl, _⟩ := head h; have := hv.1; omega
    | cond u c b d => obtain ⟨rfl, _⟩ := head h; have := hv.1; omega
  | bi t a b iha ihb =>
    intro y hw hv r s h
    have e := hw.1
    cases y with
    | leaf u => obtain ⟨rfl, _⟩ := head h; have : arF t.1 = 0 := hv; omega
    | un u d => obtain ⟨rfl, _⟩ := head h; have := hv.1; omega
    | bi u d f =>
      obtain ⟨rfl, h1⟩ := head h
      rw [List.append_assoc, List.append_assoc] at h1
      obtain ⟨rfl, h2⟩ := iha d hw.2.1 hv.2.1 _ _ h1
      obtain ⟨rfl, h3⟩ := ihb f hw.2.2 hv.2.2 _ _ h2
      exact ⟨rfl, h3⟩
    | cond u c d f => obtain ⟨rfl, _⟩ := head h; have := hv.1; omega
  | cond t c a b ihc iha ihb =>
    intro y hw hv r s h
    have e := hw.1
    cases y with
    | leaf u => obtain ⟨rfl, _⟩ := head h; have : arF t.1 = 0 := hv; omega
    | un u d => obtain ⟨rfl, _⟩ := head h; have := hv.1; omega
    | bi u d f => obtain ⟨rfl, _⟩ := head h; have := hv.1; omega
    | cond u g d f =>
      obtain ⟨rfl, h1⟩ := head h
      rw [List.append_assoc, List.append_assoc, List.append_assoc, List.append_assoc] at h1
      obtain ⟨rfl, h2⟩ := ihc g hw.2.1 hv.2.1 _ _ h1
      obtain ⟨rfl, h3⟩ := iha d hw.2.2.1 hv.2.2.1 _ _ h2
      obtain ⟨rfl, h4⟩ := ihb f hw.2.2.2 hv.2.2.2 _ _ h3
      exact ⟨rfl, h4⟩
theorem flat_inj (x y : Ex) (hw : x.wf) (hv : y.wf) (h : x.flat = y.flat) : x = y := (flat_app x y hw hv [] [] (by rw [h])).1
end Go.Proofs.Ytckofngclgkajaa
