/- The program's reader: its tables of words, and what a reading without an error holds. No program in it. -/
import Derived.Test.YtokmehjofboflaaGreatDoorTermR5
import Derived.Test.YtokmehjofboflaaGreatDoorExprPieces
import Derived.Test.YtokmehjofboflaaGreatDoorExprSpell
namespace Go.Proofs.YtokmehjofboflaaGreatDoor

def aggN (op : Int) : Nat := if aggF op = true then 1 else 0
/-- w expressions, one behind the other: the greatest of their depths is d, of their nests n -/
inductive Exs : Nat → List (Int × Int) → Nat → Nat → Prop
  | nil : Exs 0 [] 0 0
  | cons {t : Int × Int} {k j d n d' n' : Nat} {b c : List (Int × Int)} (ha : arF t.1 = (k : Int)) (hb : Exs k b d n) (hc : Exs j c d' n') : Exs (j + 1) (t :: (b ++ c)) (max (d + 1) d') (max (n + aggN t.1) n')
theorem Exs.zero {a : List (Int × Int)} {d n : Nat} (h : Exs 0 a d n) : a = [] ∧ d = 0 ∧ n = 0 := by
  generalize hw : 0 = w at h
  cases h with
  | nil => exact ⟨rfl, rfl, rfl⟩
  | cons ha hb hc => cases hw
theorem Exs.eats {w : Nat} {a : List (Int × Int)} {d n : Nat} (h : Exs w a d n) : eat a w = some a.length := by
  induction h with
  | nil => rfl
  | cons ha hb hc ih1 ih2 =>
    rename_i t k j d n d' n' b c
    rw [eat_cons, if_neg (by omega), ha, Int.toNat_natCast, Nat.add_comm j k, eat_add, eat_part c ih1]
    simp [ih2]
theorem exs_of : ∀ (m : Nat) (ts : List (Int × Int)) (w n : Nat), ts.length ≤ m → eat ts w = some n → ∃ d e, Exs w (ts.take n) d e
  | _, ts, 0, n, _, h => by
    rw [eat_zero] at h
    cases h
    exact ⟨0, 0, .nil⟩
  | _, [], w + 1, n, _, h => by rw [eat_nil] at h; cases h
  | 0, t :: ts, w + 1, n, hl, h => by simp at hl
  | m + 1, t :: ts, w + 1, n, hl, h => by
    rw [eat_cons] at h
    split at h
    · cases h
    · rename_i hk
      rw [Nat.add_comm w, eat_add] at h
      cases h1 : eat ts (arF t.1).toNat with
      | none => rw [h1] at h; cases h
      | some n1 =>
        rw [h1] at h
        simp only [Option.bind_some] at h
        cases h2 : eat (ts.drop n1) w with
        | none => rw [h2] at h; cases h
        | some n2 =>
          rw [h2] at h
          have e : n1 + n2 + 1 = n := by simpa using h
          subst e
          have hl2 : ts.length ≤ m := by simpa using hl
          obtain ⟨d1, e1, x1⟩ := exs_of m ts _ n1 hl2 h1
          obtain ⟨d2, e2, x2⟩ := exs_of m (ts.drop n1) w n2 (by rw [List.length_drop]; omega) h2
          refine ⟨max (d1 + 1) d2, max (e1 + aggN t.1) e2, ?_⟩
          rw [List.take_succ_cons, List.take_add]
          exact .cons (by omega) x1 x2

/-- the top of the stack has room for so many -/
def Room (w : Nat) : List (Int × Bool) → Prop
  | [] => True
  | (l, _) :: _ => (w : Int) ≤ l
def popN : Nat → List (Int × Bool) → List (Int × Bool)
  | 0, S => S
  | w + 1, S => popN w (popD S)
theorem popN_all : ∀ (k : Nat) (l : Int) (o : Bool) (S : List (Int × Bool)), l = (k : Int) + 1 → popN (k + 1) ((l, o) :: S) = popD S
  | 0, l, o, S, h => by
    subst h
    simp [popN, popD]
  | k + 1, l, o, S, h => by
    have e : popD ((l, o) :: S) = (l - 1, o) :: S := by
      unfold popD
      rw [if_neg (by omega)]
    show popN (k + 1) (popD ((l, o) :: S)) = popD S
    rw [e]
    exact popN_all k (l - 1) o S (by omega)
/-- behind w ≥ 2 expressions' first the stack is as high as before -/
theorem popD_high {w : Nat} {S : List (Int × Bool)} (h : Room (w + 2) S) : Room (w + 1) (popD S) ∧ (popD S).length = S.length ∧ insF (popD S) = insF S := by
  cases S with
  | nil => exact ⟨trivial, rfl, rfl⟩
  | cons x r =>
    obtain ⟨l, o⟩ := x
    have hl : ((w + 2 : Nat) : Int) ≤ l := h
    have e : popD ((l, o) :: r) = (l - 1, o) :: r := by
      unfold popD
      rw [if_neg (by omega)]
    rw [e]
    refine ⟨?_, rfl, rfl⟩
    show ((w + 1 : Nat) : Int) ≤ l - 1
    omega
/-- levels of expressions that are read on a stack -/
theorem Exs.lev {w : Nat} {a : List (Int × Int)} {d n : Nat} (h : Exs w a d n) : ∀ (rest : List (Int × Int)) (S : List (Int × Bool)) (D N : Nat), Room w S →
    levG (a ++ rest) S D N = levG rest (popN w S) (max D (if w = 0 then 0 else S.length + d)) (max N (if w = 0 then 0 else insF S + n)) := by
  induction h with
  | nil =>
    intro rest S D N _
    simp [popN]
  | cons ha hb hc ih1 ih2 =>
    rename_i t k j d n d' n' b c
    intro rest S D N hr
    have hins : insF ((arF t.1, aggF t.1) :: S) = insF S + aggN t.1 := by
      unfold insF aggN
      rw [List.countP_cons]
    have step : levG ((t :: (b ++ c)) ++ rest) S D N = levG (b ++ (c ++ rest)) (popF (((k : Int), aggF t.1) :: S)) (max D (S.length + 1)) (max N (insF S + aggN t.1)) := by
      rw [List.cons_append, List.append_assoc]
      show levG (b ++ (c ++ rest)) (popF ((arF t.1, aggF t.1) :: S)) _ (max N (insF ((arF t.1, aggF t.1) :: S))) = _
      rw [hins, ha]
    have mid : levG ((t :: (b ++ c)) ++ rest) S D N = levG (c ++ rest) (popD S) (max D (S.length + (d + 1))) (max N (insF S + (n + aggN t.1))) := by
      rw [step]
      cases k with
      | zero =>
        obtain ⟨rfl, rfl, rfl⟩ := hb.zero
        have e : popF ((((0 : Nat) : Int), aggF t.1) :: S) = popD S := by simp [popF]
        rw [e, List.nil_append]
        congr 1
        · omega
      | succ k =>
        have e : popF ((((k + 1 : Nat) : Int), aggF t.1) :: S) = (((k + 1 : Nat) : Int), aggF t.1) :: S := popF_done (by omega)
        rw [e, ih1 (c ++ rest) _ _ _ (by show ((k + 1 : Nat) : Int) ≤ ((k + 1 : Nat) : Int); omega), popN_all k _ _ _ (by omega)]
        have hi2 : insF ((((k + 1 : Nat) : Int), aggF t.1) :: S) = insF S + aggN t.1 := by
          unfold insF aggN
          rw [List.countP_cons]
        rw [if_neg (by omega), if_neg (by omega), hi2, List.length_cons]
        congr 1
        · omega
        · omega
    rw [mid]
    cases j with
    | zero =>
      obtain ⟨rfl, rfl, rfl⟩ := hc.zero
      rw [List.nil_append]
      show levG rest (popD S) _ _ = levG rest (popN 0 (popD S)) _ _
      rw [if_neg (by omega), if_neg (by omega)]
      unfold popN
      congr 1
      omega
    | succ j =>
      obtain ⟨h1, h2, h3⟩ := popD_high hr
      rw [ih2 rest (popD S) _ _ h1, if_neg (by omega), if_neg (by omega), if_neg (by omega), if_neg (by omega), h2, h3]
      show levG rest (popN (j + 1) (popD S)) _ _ = levG rest (popN (j + 1) (popD S)) _ _
      congr 1
      · omega
      · omega
theorem Exs.levF {a : List (Int × Int)} {d n : Nat} (h : Exs 1 a d n) : levF a = (d, n) := by
  have := h.lev [] [] 0 0 trivial
  rw [List.append_nil] at this
  unfold Go.Proofs.YtokmehjofboflaaGreatDoor.levF
  rw [this]
  simp [levG, insF]
/-- a list that is one expression -/
theorem one_exs {xs : List (Int × Int)} (h : eat xs 1 = some xs.length) : Exs 1 xs (levF xs).1 (levF xs).2 := by
  obtain ⟨d, n, hx⟩ := exs_of xs.length xs 1 xs.length (Nat.le_refl _) h
  rw [List.take_length] at hx
  rw [hx.levF]
  exact hx
theorem oneB_iff {xs : List (Int × Int)} : oneB xs = true ↔ eat xs 1 = some xs.length := by
  unfold oneB
  rw [decide_eq_true_eq]
  constructor
  · rintro ⟨h0, h⟩
    unfold endF at h
    rw [if_pos (by omega)] at h
    simp only [Int.toNat_zero, List.drop_zero] at h
    split at h
    · rename_i n hn
      rw [hn]
      congr 1
      omega
    · omega
  · intro h
    have := eat_le h
    refine ⟨by omega, ?_⟩
    have h2 := endF_some (xs := xs) (p := 0) (n := xs.length) (by simpa using h)
    simpa using h2
/-- every part is an expression, no deeper, and less deep if it is a proper part of one expression -/
theorem Exs.part {w : Nat} {a : List (Int × Int)} {d n : Nat} (h : Exs w a d n) : ∀ i, i < a.length → ∃ m d' n', eat (a.drop i) 1 = some m ∧ Exs 1 ((a.drop i).take m) d' n' ∧ d' ≤ d ∧ n' ≤ n ∧ (w = 1 → i ≠ 0 → d' < d) := by
  induction h with
  | nil => intro i hi; simp at hi
  | cons ha hb hc ih1 ih2 =>
    rename_i t k j d n d' n' b c
    intro i hi
    cases i with
    | zero =>
      have hx := Exs.cons ha hb Exs.nil
      rw [List.append_nil] at hx
      refine ⟨b.length + 1, max (d + 1) 0, max (n + aggN t.1) 0, ?_, ?_, by omega, by omega, fun _ h => absurd rfl h⟩
      · rw [List.drop_zero]
        have := eat_part c hx.eats
        rwa [List.cons_append, List.length_cons] at this
      · rw [List.drop_zero, List.take_succ_cons, List.take_append_of_le_length (Nat.le_refl _), List.take_length]
        exact hx
    | succ i =>
      rw [List.drop_succ_cons]
      by_cases hib : i < b.length
      · obtain ⟨m, d1, n1, h1, h2, h3, h4, _⟩ := ih1 i hib
        have hm := (eat_le h1).2
        rw [List.drop_append_of_le_length (by omega)]
        refine ⟨m, d1, n1, eat_part c h1, ?_, by omega, by omega, fun _ _ => by omega⟩
        rw [List.take_append_of_le_length hm]
        exact h2
      · have hlen : i + 1 < b.length + c.length + 1 := by simpa using hi
        obtain ⟨m, d1, n1, h1, h2, h3, h4, _⟩ := ih2 (i - b.length) (by omega)
        have e : (b ++ c).drop i = c.drop (i - b.length) := by
          rw [List.drop_append, List.drop_of_length_le (by omega), List.nil_append]
        rw [e]
        refine ⟨m, d1, n1, h1, h2, by omega, by omega, fun hw _ => ?_⟩
        have hj : j = 0 := by omega
        subst hj
        obtain ⟨rfl, _, _⟩ := hc.zero
        simp at hlen
        omega
/-- the places of the operands -/
theorem place_eat {xs : List (Int × Int)} {p K N : Nat} (h : eat (xs.drop (p + 1)) K = some N) : ∀ k, k ≤ K → ∃ n, eat (xs.drop (p + 1)) k = some n ∧ placeF xs p k = (p + 1 + n : Nat)
  | 0, _ => ⟨0, eat_zero _, by unfold placeF; omega⟩
  | k + 1, hk => by
    obtain ⟨n, h1, h2⟩ := place_eat h k (by omega)
    rw [show K = k + (1 + (K - k - 1)) by omega, eat_add, h1, Option.bind_some, eat_add] at h
    cases h3 : eat ((xs.drop (p + 1)).drop n) 1 with
    | none => rw [h3] at h; cases h
    | some m =>
      refine ⟨n + m, by rw [eat_add, h1, Option.bind_some, h3]; rfl, ?_⟩
      rw [List.drop_drop] at h3
      show endF xs (placeF xs p k) = _
      rw [h2, endF_some h3]
      omega
theorem end_place {xs : List (Int × Int)} {p m : Nat} (hp : p < xs.length) (h : eat (xs.drop p) 1 = some m) : 0 ≤ arF (toA xs p) ∧ endF xs p = placeF xs p (arF (toA xs p)).toNat ∧ ∃ N, eat (xs.drop (p + 1)) (arF (toA xs p)).toNat = some N := by
  have he := endF_some h
  rw [drop_tm hp, eat_cons] at h
  split at h
  · cases h
  · rename_i hk
    dsimp only at h hk
    rw [Nat.zero_add] at h
    cases hn : eat (xs.drop (p + 1)) (arF (toA xs p)).toNat with
    | none => rw [hn] at h; cases h
    | some N =>
      rw [hn] at h
      have e : N + 1 = m := by simpa using h
      obtain ⟨n, h1, h2⟩ := place_eat hn _ (Nat.le_refl _)
      rw [hn] at h1
      cases h1
      exact ⟨by omega, by rw [he, h2]; omega, N, rfl⟩
/-- in one expression an expression begins at each place -/
theorem one_part {xs : List (Int × Int)} (h : oneB xs = true) {p : Nat} (hp : p < xs.length) : ∃ m, eat (xs.drop p) 1 = some m := by
  obtain ⟨m, _, _, h1, _⟩ := (one_exs (oneB_iff.1 h)).part p hp
  exact ⟨m, h1⟩
/-- a proper beginning is no expression; nor is one with a term behind it -/
theorem one_cut {xs : List (Int × Int)} (h : oneB xs = true) {m : Nat} (hm : m < xs.length) : eat (xs.take m) 1 = none := by
  cases hk : eat (xs.take m) 1 with
  | none => rfl
  | some k =>
    have h1 := eat_part (xs.drop m) hk
    rw [List.take_append_drop, oneB_iff.1 h] at h1
    have h2 := (eat_le hk).2
    rw [List.length_take] at h2
    injection h1 with h1
    omega
theorem one_long {xs : List (Int × Int)} (h : oneB xs = true) (t : Int × Int) : eat (xs ++ [t]) 1 = some xs.length := eat_part [t] (oneB_iff.1 h)
end Go.Proofs.YtokmehjofboflaaGreatDoor
namespace Go.Proofs.YtokmehjofboflaaGreatDoor
set_option maxRecDepth 100000

/-! ### Trees -/
inductive Ex where
  | leaf (t : Int × Int)
  | un (t : Int × Int) (a : Ex)
  | bi (t : Int × Int) (a b : Ex)
  | cond (t : Int × Int) (c a b : Ex)
def Ex.flat : Ex → List (Int × Int)
  | .leaf t => [t]
  | .un t a => t :: a.flat
  | .bi t a b => t :: (a.flat ++ b.flat)
  | .cond t c a b => t :: (c.flat ++ (a.flat ++ b.flat))
def Ex.top : Ex → Int × Int
  | .leaf t => t
  | .un t _ => t
  | .bi t _ _ => t
  | .cond t _ _ _ => t
/-- each operation has as many operands as it wants -/
def Ex.wf : Ex → Prop
  | .leaf t => arF t.1 = 0
  | .un t a => arF t.1 = 1 ∧ a.wf
  | .bi t a b => arF t.1 = 2 ∧ a.wf ∧ b.wf
  | .cond t c a b => arF t.1 = 3 ∧ c.wf ∧ a.wf ∧ b.wf
def flats (L : List Ex) : List (Int × Int) := (L.map Ex.flat).flatten
theorem exs_trees {w : Nat} {a : List (Int × Int)} {d n : Nat} (h : Exs w a d n) : ∃ L : List Ex, L.length = w ∧ flats L = a ∧ ∀ x ∈ L, x.wf := by
  induction h with
  | nil => exact ⟨[], rfl, rfl, by simp⟩
  | @cons t k j d n d' n' b c ha hb hc ih1 ih2 =>
    obtain ⟨L1, l1, f1, w1⟩ := ih1
    obtain ⟨L2, l2, f2, w2⟩ := ih2
    have key : ∃ x : Ex, x.flat = t :: b ∧ x.wf := by
      have h3 := (arF_le t.1).2
      match L1, l1, f1, w1 with
      | [], l1, f1, _ =>
        refine ⟨.leaf t, ?_, ?_⟩
        · rw [← f1]; rfl
        · show arF t.1 = 0
          simp at l1
          omega
      | [x], l1, f1, w1 =>
        refine ⟨.un t x, ?_, ?_, w1 x (by simp)⟩
        · rw [← f1]
          simp [Ex.flat, flats]
        · simp at l1
          omega
      | [x, y], l1, f1, w1 =>
        refine ⟨.bi t x y, ?_, ?_, w1 x (by simp), w1 y (by simp)⟩
        · rw [← f1]
          simp [Ex.flat, flats]
        · simp at l1
          omega
      | [x, y, z], l1, f1, w1 =>
        refine ⟨.cond t x y z, ?_, ?_, w1 x (by simp), w1 y (by simp), w1 z (by simp)⟩
        · rw [← f1]
          simp [Ex.flat, flats]
        · simp at l1
          omega
      | x :: y :: z :: u :: R, l1, _, _ =>
        simp at l1
        omega
    obtain ⟨x, hx, hw⟩ := key
    refine ⟨x :: L2, by simp [l2], ?_, ?_⟩
    · show x.flat ++ flats L2 = t :: (b ++ c)
      rw [hx, f2]
      rfl
    · intro y hy
      rcases List.mem_cons.1 hy with rfl | hy
      · exact hw
      · exact w2 y hy
/-- one expression is a tree -/
theorem one_tree {xs : List (Int × Int)} (h : oneB xs = true) : ∃ x : Ex, x.flat = xs ∧ x.wf := by
  obtain ⟨L, l, f, w⟩ := exs_trees (one_exs (oneB_iff.1 h))
  match L, l, f, w with
  | [x], _, f, w => exact ⟨x, by rw [← f]; simp [flats], w x (by simp)⟩

/-! ### Words of operations, numbers, names -/
def wordL : List Bytes := [[], [], [116, 114, 117, 101], [102, 97, 108, 115, 101], [110, 111, 110, 101], [], [110], [105, 100, 115], [105, 100], [100, 101, 103], [114, 111, 111, 116], [113], [], [113, 46, 105, 100], [113, 46, 100, 101, 103], [113, 46, 114, 111, 111, 116], [113, 46, 119, 101, 105, 103, 104, 116], [113, 46, 98, 97, 99, 107], [45], [33], [97, 108, 108], [115, 111, 109, 101], [99, 111, 117, 110, 116], [102, 105, 114, 115, 116], [109, 105, 110], [109, 97, 120], [115, 117, 109], [109, 101, 120], [115, 101, 99, 111, 110, 100], [104, 101, 97, 100], [42], [47], [37], [43], [45], [61, 61], [33, 61], [60], [60, 61], [62], [62, 61], [38, 38], [124, 124], []]
def wordF (op : Int) : Bytes := wordL.getD op.toNat []
/-- the level of an operation -/
def lvF (op : Int) : Nat := if op = 43 then 1 else if op = 42 then 2 else if op = 41 then 3 else if 35 ≤ op ∧ op ≤ 40 then 4 else if op = 33 ∨ op = 34 then 5 else if 30 ≤ op ∧ op ≤ 32 then 6 else if op = 18 ∨ op = 19 then 7 else 8
def digit (d : Nat) : UInt8 := UInt8.ofNat (48 + d)
theorem digit_nat {d : Nat} (h : d < 10) : (digit d).toNat = 48 + d := by
  unfold digit
  rw [UInt8.toNat_ofNat']
  omega
def decB (n : Nat) : Bytes := if n < 10 then [digit n] else decB (n / 10) ++ [digit (n % 10)]
theorem dec_small {n : Nat} (h : n < 10) : decB n = [digit n] := by unfold decB; rw [if_pos h]
theorem dec_big {n : Nat} (h : 10 ≤ n) : decB n = decB (n / 10) ++ [digit (n % 10)] := by rw [decB, if_neg (by omega)]
theorem digit_dgt {d : Nat} (h : d < 10) : isDgt (digit d) = true := by
  unfold isDgt
  rw [digit_nat h]
  simp
  omega
theorem run_full {p : UInt8 → Bool} : ∀ {l : Bytes}, (∀ b ∈ l, p b = true) → runF p l = l.length
  | [], _ => rfl
  | x :: l, h => by
    unfold runF
    rw [if_pos (h x (by simp)), run_full (fun b hb => h b (by simp [hb]))]
    rfl
theorem dec_facts (n : Nat) : (∀ b ∈ decB n, isDgt b = true) ∧ valF (decB n) = n ∧ (∃ b l, decB n = b :: l ∧ (l = [] ∨ b ≠ 48) ∧ (0 < n → b ≠ 48)) := by
  induction n using Nat.strongRecOn with
  | ind n ih =>
    by_cases h : n < 10
    · rw [dec_small h]
      refine ⟨fun b hb => ?_, ?_, digit n, [], rfl, .inl rfl, fun h0 e => ?_⟩
      · simp at hb
        rw [hb]
        exact digit_dgt h
      · show 10 * 0 + ((digit n).toNat - 48) = n
        rw [digit_nat h]
        omega
      · have := congrArg UInt8.toNat e
        rw [digit_nat h] at this
        simp at this
        omega
    · obtain ⟨h1, h2, b, l, h3, h4, h5⟩ := ih (n / 10) (by omega)
      rw [dec_big (by omega)]
      refine ⟨fun b hb => ?_, ?_, b, l ++ [digit (n % 10)], by rw [h3]; rfl, .inr (h5 (by omega)), fun _ => h5 (by omega)⟩
      · rcases List.mem_append.1 hb with hb | hb
        · exact h1 b hb
        · simp at hb
          rw [hb]
          exact digit_dgt (by omega)
      · rw [val_snoc, h2, digit_nat (by omega)]
        omega
theorem dec_tok {n : Nat} (h : n ≤ 1073741824) : tokF (decB n) = .inr ⟨2, (decB n).length, n⟩ := by
  obtain ⟨h1, h2, b, l, h3, h4, h5⟩ := dec_facts n
  have hr := run_full h1
  rw [h3] at h1 h2 hr ⊢
  have hb := h1 b (by simp)
  have hl : isLet b = false := by
    unfold isDgt at hb
    unfold isLet
    simp at hb ⊢
    omega
  unfold tokF
  dsimp only
  rw [hl, if_neg (by decide), if_pos hb, hr, List.take_length, h2, if_neg]
  rw [Bool.not_eq_true, Bool.or_eq_false_iff]
  refine ⟨?_, by simp; omega⟩
  rcases h4 with rfl | h4
  · simp
  · simp [h4]
theorem look_mem {T : List (Bytes × Int)} {l : Bytes} (h : lookW T l ≠ 0) : ∃ x ∈ T, x.1 = l := by
  unfold lookW at h
  cases hf : T.find? fun x => x.1 == l with
  | none => rw [hf] at h; exact absurd rfl h
  | some x => exact ⟨x, List.mem_of_find?_eq_some hf, by simpa using List.find?_some hf⟩
theorem look_free {T : List (Bytes × Int)} (hT : T.all (fun x => wordsL.contains x.1) = true) {l : Bytes} (h : resF l = false) : lookW T l = 0 := by
  rcases Classical.em (lookW T l = 0) with h0 | h0
  · exact h0
  · obtain ⟨x, hx, rfl⟩ := look_mem h0
    rw [List.all_eq_true] at hT
    have := hT x hx
    unfold resF at h
    rw [h] at this
    cases this
/-- what a name is as a word -/
structure NameW (w : Bytes) : Prop where
  tok : tokF w = .inr ⟨1, w.length, 0⟩
  fact : factF w = 0
  agg : aggW w = 0
  field : fieldF w = 0
  q : w ≠ [113]
  br : w ≠ [40]
  head : ∃ b l, w = b :: l ∧ isLet b = true
  len : w.length ≤ 24
theorem name_word {w : Bytes} (h : nameF w = true) : NameW w := by
  cases w with
  | nil => cases h
  | cons x r =>
    unfold nameF at h
    simp only [Bool.and_eq_true, decide_eq_true_eq, Bool.not_eq_true'] at h
    obtain ⟨⟨⟨h1, h2⟩, h3⟩, h4⟩ := h
    refine ⟨?_, look_free (by decide) h4, look_free (by decide) h4, look_free (by decide) h4, ?_, ?_, ⟨x, r, rfl, h2⟩, h1⟩
    · unfold tokF
      dsimp only
      rw [if_pos h2, h3, if_neg (by omega)]
    · intro e
      rw [e] at h4
      revert h4
      decide
    · intro e
      injection e with e1 e2
      subst e1
      revert h2
      decide
theorem NameW.kind {w : Bytes} (h : NameW w) : kindW w ≠ 2 := by
  unfold kindW
  rw [h.tok]
  show (1 : Nat) ≠ 2
  decide
theorem idx_app {a r : List Bytes} {x : Bytes} (h : idxN a x = none) : idxN (a ++ x :: r) x = some a.length := by
  induction a with
  | nil => simp [idxN]
  | cons y a ih =>
    rw [List.cons_append]
    unfold idxN at h ⊢
    split at h
    · cases h
    · rename_i hy
      rw [if_neg hy]
      cases hk : idxN a x with
      | some k => rw [hk] at h; cases h
      | none => rw [ih hk]; rfl
theorem goodN_at : ∀ {l done : List Bytes}, goodN done l = true → ∀ i (h : i < l.length), nameF l[i] = true ∧ idxN (done ++ l.take i) l[i] = none
  | [], _, _, i, h => by simp at h
  | x :: r, done, h, i, hi => by
    unfold goodN at h
    simp only [Bool.and_eq_true, decide_eq_true_eq] at h
    obtain ⟨⟨h1, h2⟩, h3⟩ := h
    cases i with
    | zero =>
      refine ⟨h1, ?_⟩
      show idxN (done ++ []) x = none
      rw [List.append_nil]
      unfold idxI at h2
      cases hk : idxN done x with
      | none => rfl
      | some k => rw [hk] at h2; dsimp only at h2; omega
    | succ i =>
      have := goodN_at h3 i (by simpa using hi)
      simpa using this
theorem good_at {ns : List Bytes} (h : goodF ns = true) {i : Nat} (hi : i < ns.length) : nameF (ns.getD i []) = true ∧ idxN ns (ns.getD i []) = some i := by
  unfold goodF at h
  simp only [Bool.and_eq_true, decide_eq_true_eq] at h
  obtain ⟨h1, h2⟩ := goodN_at h.2 i hi
  have e : ns.getD i [] = ns[i] := by rw [List.getD_eq_getElem?_getD, List.getElem?_eq_getElem hi]; rfl
  rw [e]
  refine ⟨h1, ?_⟩
  rw [List.nil_append] at h2
  have h3 := idx_app (r := ns.drop (i + 1)) h2
  rw [← List.drop_eq_getElem_cons hi, List.take_append_drop, List.length_take, Nat.min_eq_left (by omega)] at h3
  exact h3
end Go.Proofs.YtokmehjofboflaaGreatDoor
namespace Go.Proofs.YtokmehjofboflaaGreatDoor
set_option maxRecDepth 100000

/-! ### The table of words -/
/-- the first operation from one on, of so many, that is written so; 0 if there is none -/
def opG (l : Bytes) : Nat → Nat → Nat
  | _, 0 => 0
  | op, n + 1 => if wordF (op : Int) = l then op else opG l (op + 1) n
def opF (a n : Nat) (l : Bytes) : Nat := if l = [] then 0 else opG l a n
theorem opG_skip {l : Bytes} : ∀ {n k a : Nat}, k ≤ n → (∀ j, j < k → wordF ((a + j : Nat) : Int) ≠ l) → opG l a n = opG l (a + k) (n - k)
  | _, 0, _, _, _ => rfl
  | 0, k + 1, _, h, _ => by omega
  | n + 1, k + 1, a, h, hj => by
    have h0 := hj 0 (by omega)
    rw [Nat.add_zero] at h0
    rw [opG, if_neg h0, opG_skip (n := n) (k := k) (a := a + 1) (by omega) (fun j hk => by
      have := hj (j + 1) (by omega)
      rwa [show a + (j + 1) = a + 1 + j by omega] at this)]
    congr 1 <;> omega
theorem opG_hit {l : Bytes} {n k a : Nat} (h : k < n) (hj : ∀ j, j < k → wordF ((a + j : Nat) : Int) ≠ l) (hk : wordF ((a + k : Nat) : Int) = l) : opG l a n = a + k := by
  rw [opG_skip (Nat.le_of_lt h) hj, show n - k = (n - k - 1) + 1 by omega, opG, if_pos hk]
theorem opG_miss {l : Bytes} {n a : Nat} (hj : ∀ j, j < n → wordF ((a + j : Nat) : Int) ≠ l) : opG l a n = 0 := by
  rw [opG_skip (Nat.le_refl _) hj, Nat.sub_self, opG]
theorem opG_le (l : Bytes) : ∀ (n a : Nat), opG l a n ≤ a + n
  | 0, a => Nat.zero_le _
  | n + 1, a => by
    rw [opG]
    split
    · omega
    · have := opG_le l n (a + 1)
      omega
theorem opF_le (a n : Nat) (l : Bytes) : opF a n l ≤ a + n := by
  unfold opF
  split
  · omega
  · exact opG_le _ _ _
theorem look_cons (x : Bytes × Int) (T : List (Bytes × Int)) (l : Bytes) : lookW (x :: T) l = if x.1 = l then x.2 else lookW T l := by
  unfold lookW
  rw [List.find?_cons]
  by_cases h : x.1 = l
  · have : (x.1 == l) = true := by simpa using h
    rw [this, if_pos h]
    rfl
  · have : (x.1 == l) = false := by simpa using h
    rw [this, if_neg h]
def tabW : Nat → Nat → List (Bytes × Int)
  | _, 0 => []
  | op, n + 1 => (wordF (op : Int), (op : Int)) :: tabW (op + 1) n
theorem opG_tab (l : Bytes) : ∀ (n a : Nat), ((opG l a n : Nat) : Int) = lookW (tabW a n) l
  | 0, _ => rfl
  | n + 1, a => by
    rw [opG, tabW, look_cons]
    split
    · rfl
    · exact opG_tab l n (a + 1)
theorem look_pre (l : Bytes) : ∀ T : List (Bytes × Int), lookW (T.map fun x => (113 :: 46 :: x.1, x.2)) (113 :: 46 :: l) = lookW T l
  | [] => rfl
  | x :: T => by
    rw [List.map_cons, look_cons, look_cons, look_pre l T]
    by_cases h : x.1 = l
    · rw [if_pos h, if_pos (by rw [h])]
    · rw [if_neg h, if_neg (fun e => h (List.cons.inj (List.cons.inj e).2).2)]
theorem look_hole {l : Bytes} (h : l ≠ []) (k : Int) (T : List (Bytes × Int)) : lookW (([], k) :: T) l = lookW T l := by
  rw [look_cons, if_neg (fun e => h e.symm)]
theorem look_congr {l : Bytes} {T T' : List (Bytes × Int)} (x : Bytes × Int) (h : lookW T l = lookW T' l) : lookW (x :: T) l = lookW (x :: T') l := by
  rw [look_cons, look_cons, h]
theorem opF_fact (l : Bytes) : ((opF 2 9 l : Nat) : Int) = factF l := by
  unfold opF
  by_cases h : l = []
  · subst h
    decide
  rw [if_neg h, opG_tab]
  exact look_congr _ (look_congr _ (look_congr _ (look_hole h 5 _)))
theorem opF_agg (l : Bytes) : ((opF 20 10 l : Nat) : Int) = aggW l := by
  unfold opF
  by_cases h : l = []
  · subst h
    decide
  rw [if_neg h, opG_tab]
  exact congrArg (fun T => lookW T l) (show tabW 20 10 = aggT by decide)
theorem opF_field (l : Bytes) : ((opF 13 5 (113 :: 46 :: l) : Nat) : Int) = fieldF l := by
  unfold opF
  rw [if_neg (by simp), opG_tab, show tabW 13 5 = fieldT.map (fun x => (113 :: 46 :: x.1, x.2)) by decide, look_pre]
  rfl
/-- the sign in front of a unary -/
theorem opF_neg (l : Bytes) : opF 18 2 l = if l = [45] then 18 else if l = [33] then 19 else 0 := by
  by_cases h1 : l = [45]
  · subst h1
    decide
  by_cases h2 : l = [33]
  · subst h2
    decide
  rw [if_neg h1, if_neg h2]
  unfold opF
  split
  · rfl
  · refine opG_miss fun j hj e => ?_
    rcases (by omega : j = 0 ∨ j = 1) with rfl | rfl
    · exact h1 e.symm
    · exact h2 e.symm
/-- the binary signs -/
def signL : List Bytes := [[42], [47], [37], [43], [45], [61, 61], [33, 61], [60], [60, 61], [62], [62, 61], [38, 38], [124, 124]]
theorem sign_in {l : Bytes} (h : l ∈ signL) : (binF l).1 = ((opF 30 13 l : Nat) : Int) ∧ (binF l).1 ≠ 0 ∧ (binF l).2 = ((lvF ((opF 30 13 l : Nat) : Int) : Nat) : Int) := by
  have : ∀ x ∈ signL, (binF x).1 = ((opF 30 13 x : Nat) : Int) ∧ (binF x).1 ≠ 0 ∧ (binF x).2 = ((lvF ((opF 30 13 x : Nat) : Int) : Nat) : Int) := by decide
  exact this l h
theorem sign_out {l : Bytes} (h : l ∉ signL) : (binF l).1 = 0 ∧ opF 30 13 l = 0 := by
  constructor
  · unfold binF lookT
    rw [List.find?_eq_none.2]
    · rfl
    · intro x hx
      have : ∀ x ∈ signT, x.1 ∈ signL := by decide
      simp only [beq_iff_eq]
      intro e
      exact h (by rw [← e]; exact this x hx)
  · unfold opF
    split
    · rfl
    · refine opG_miss fun j hj e => h ?_
      have : ∀ j, j < 13 → wordF ((30 + j : Nat) : Int) ∈ signL := by decide
      rw [← e]
      exact this j hj
/-- the operation of a level that a word is -/
def signP (lv : Nat) (l : Bytes) : Nat := if lvF ((opF 30 13 l : Nat) : Int) = lv then opF 30 13 l else 0
theorem signP_iff {lv : Nat} (h1 : 1 ≤ lv) (h7 : lv ≤ 7) (l : Bytes) : (signP lv l = 0 ↔ ((binF l).1 = 0 ∨ (binF l).2 ≠ (lv : Int))) ∧ (signP lv l ≠ 0 → ((signP lv l : Nat) : Int) = (binF l).1) := by
  unfold signP
  by_cases h : l ∈ signL
  · obtain ⟨e1, e2, e3⟩ := sign_in h
    rw [← e1] at e3
    rw [← e1]
    have hz : opF 30 13 l ≠ 0 := by omega
    split
    · rename_i e4
      rw [e3, e4]
      exact ⟨⟨fun e => absurd e hz, fun e => by rcases e with e | e; exact absurd e e2; exact absurd rfl e⟩, fun _ => e1.symm⟩
    · rename_i e4
      rw [e3]
      exact ⟨⟨fun _ => .inr (by omega), fun _ => rfl⟩, fun e => absurd rfl e⟩
  · obtain ⟨e1, e2⟩ := sign_out h
    rw [e2, e1]
    have e8 : lvF ((0 : Nat) : Int) = 8 := by decide
    rw [e8, if_neg (by omega)]
    exact ⟨⟨fun _ => .inl rfl, fun _ => rfl⟩, fun e => absurd rfl e⟩

/-! ### Readings without an error -/
theorem run_bad {V : Env} {n : Nat} {g : Go6} {s : St} {o : Out} (h : V.run n g s = some o) (he : s.err ≠ 0) : o.2 = s := (run_fine V n g s o h).later.stay he
theorem run_good {V : Env} {n : Nat} {g : Go6} {s : St} {o : Out} (h : V.run n g s = some o) (he : o.2.err = 0) : s.err = 0 := by
  by_cases h0 : s.err = 0
  · exact h0
  · rw [run_bad h h0] at he
    exact absurd he h0
theorem fail_err (V : Env) (s : St) {e : Nat} (he : e ≠ 0) : (V.fail s e).err ≠ 0 := by
  unfold Env.fail
  split
  · assumption
  · exact he
theorem want_good {V : Env} {x : UInt8} {l : Bytes} {s : St} (h : (V.want (x :: l) s).err = 0) : V.word s = x :: l ∧ V.want (x :: l) s = s.adv := by
  unfold Env.want at h ⊢
  split at h
  · rename_i hq
    rw [if_pos hq]
    exact ⟨hq, rfl⟩
  · exact absurd h (fail_err V s (by decide))
theorem var_good {V : Env} {op : Int} {s : St} (h : (V.var op s).2.err = 0) : ∃ x, V.var op s = ([(op, ((x : Nat) : Int))], s.adv) ∧ nameF (V.word s) = true ∧ idxN V.ns (V.word s) = some x := by
  unfold Env.var at h ⊢
  split at h
  · exact absurd h (fail_err V s (by decide))
  · rename_i hn
    rw [if_neg hn]
    cases hx : idxN V.ns (V.word s) with
    | none => rw [hx] at h; exact absurd h (fail_err V s (by decide))
    | some x => exact ⟨x, rfl, by simpa using hn, rfl⟩
/-- a reading without an error has a list that is not empty -/
theorem run_some (V : Env) : ∀ (n : Nat) (g : Go6) (s : St) (o : Out), V.run n g s = some o → o.2.err = 0 → (∀ lv l, g = .more lv l → l ≠ []) → o.1 ≠ []
  | 0, g, s, o, h, _, _ => by unfold Env.run at h; cases h
  | n + 1, .choice, s, o, h, he, _ => by
    unfold Env.run at h
    cases h1 : V.run n (.bin 2) s with
    | none => rw [h1] at h; cases h
    | some c =>
      rw [h1, Option.bind_some] at h
      split at h
      · cases h2 : V.run n .choice c.2.adv with
        | none => rw [h2] at h; cases h
        | some a =>
          rw [h2, Option.bind_some] at h
          cases h3 : V.run n .choice (V.want [58] a.2) with
          | none => rw [h3] at h; cases h
          | some b =>
            rw [h3, Option.bind_some] at h
            injection h with h
            subst h
            simp
      · injection h with h
        subst h
        exact run_some V n _ _ _ h1 he (fun _ _ e => by injection e)
  | n + 1, .bin lv, s, o, h, he, _ => by
    unfold Env.run at h
    split at h
    · exact run_some V n _ _ _ h he (fun _ _ e => by injection e)
    · cases h1 : V.run n (.bin (lv + 1)) s with
      | none => rw [h1] at h; cases h
      | some l =>
        rw [h1, Option.bind_some] at h
        have hl := run_good h he
        have h2 := run_some V n _ _ _ h1 hl (fun _ _ e => by injection e)
        exact run_some V n _ _ _ h he (fun _ _ e => by injection e with _ e; rw [← e]; exact h2)
  | n + 1, .more lv l, s, o, h, he, hl => by
    unfold Env.run at h
    split at h
    · injection h with h
      subst h
      exact hl _ _ rfl
    · cases h1 : V.run n (.bin (lv + 1)) s.adv with
      | none => rw [h1] at h; cases h
      | some r =>
        rw [h1, Option.bind_some] at h
        split at h
        · injection h with h
          subst h
          simp
        · exact run_some V n _ _ _ h he (fun _ _ e => by injection e with _ e; rw [← e]; simp)
  | n + 1, .unary, s, o, h, he, _ => by
    unfold Env.run at h
    split at h
    · cases h1 : V.run n .unary s.adv with
      | none => rw [h1] at h; cases h
      | some x =>
        rw [h1, Option.bind_some] at h
        injection h with h
        subst h
        simp
    · split at h
      · cases h1 : V.run n .unary s.adv with
        | none => rw [h1] at h; cases h
        | some x =>
          rw [h1, Option.bind_some] at h
          injection h with h
          subst h
          simp
      · exact run_some V n _ _ _ h he (fun _ _ e => by injection e)
  | n + 1, .prim, s, o, h, he, _ => by
    unfold Env.run at h
    split at h
    · injection h with h
      subst h
      simp
    · split at h
      · injection h with h
        subst h
        simp
      · split at h
        · cases h1 : V.run n .choice (V.want [40] s.adv) with
          | none => rw [h1] at h; cases h
          | some y =>
            rw [h1, Option.bind_some] at h
            injection h with h
            subst h
            simp
        · split at h
          · cases h1 : V.run n .choice s.adv with
            | none => rw [h1] at h; cases h
            | some y =>
              rw [h1, Option.bind_some] at h
              injection h with h
              subst h
              have hw := (want_good he).1
              have hy : y.2.err = 0 := (word_in hw).1
              show y.1 ≠ []
              exact run_some V n .choice s.adv y h1 hy (fun _ _ e => by injection e)
          · split at h
            · injection h with h
              subst h
              unfold Env.near at he ⊢
              split
              · rename_i h46
                rw [if_pos h46] at he
                split
                · simp
                · rename_i hf
                  rw [if_neg hf] at he
                  obtain ⟨x, e, _⟩ := var_good he
                  rw [e]
                  simp
              · simp
            · injection h with h
              subst h
              obtain ⟨x, e, _⟩ := var_good he
              rw [e]
              simp
end Go.Proofs.YtokmehjofboflaaGreatDoor
