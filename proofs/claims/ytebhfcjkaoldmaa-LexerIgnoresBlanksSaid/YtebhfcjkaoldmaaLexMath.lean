/- Tokens of a text, over lists of bytes: gaps, words, numbers, signs, and the scan. No program in sight. -/
import Derived.Test.YtebhfcjkaoldmaaRows
namespace Go.Proofs.Ytebhfcjkaoldmaa

abbrev Bytes := List UInt8

/-! ### Kinds of bytes -/
def isBl (b : UInt8) : Bool := b == 32 || b == 9 || b == 10 || b == 13
def isLet (b : UInt8) : Bool := (decide (97 ≤ b.toNat) && decide (b.toNat ≤ 122)) || (decide (65 ≤ b.toNat) && decide (b.toNat ≤ 90))
def isDgt (b : UInt8) : Bool := decide (48 ≤ b.toNat) && decide (b.toNat ≤ 57)
def isIn (b : UInt8) : Bool := isLet b || isDgt b || b == 95
def isOne (b : UInt8) : Bool := b == 59 || b == 58 || b == 44 || b == 40 || b == 41 || b == 46 || b == 63 || b == 60 || b == 62 || b == 43 || b == 45 || b == 42 || b == 47 || b == 37 || b == 33
def twos : List Bytes := [[46, 46], [45, 62], [58, 61], [38, 38], [124, 124], [61, 61], [33, 61], [60, 61], [62, 61]]
/-- what may stand behind a token without changing it -/
def isSep (b : UInt8) : Bool := b == 32 || b == 10 || b == 9 || b == 35

/-! ### Gaps and runs -/
def gapF : Bool → Bytes → Nat
  | _, [] => 0
  | c, x :: l => if (x == 35 || (c && x != 10)) || isBl x then gapF (x == 35 || (c && x != 10)) l + 1 else 0
def runF (p : UInt8 → Bool) : Bytes → Nat
  | [] => 0
  | x :: l => if p x then runF p l + 1 else 0

theorem gap_le : ∀ (c : Bool) (l : Bytes), gapF c l ≤ l.length
  | _, [] => Nat.le_refl _
  | c, x :: l => by
    unfold gapF
    have := gap_le (x == 35 || (c && x != 10)) l
    split <;> simp <;> omega
theorem run_le (p : UInt8 → Bool) : ∀ l : Bytes, runF p l ≤ l.length
  | [] => Nat.le_refl _
  | x :: l => by
    unfold runF
    have := run_le p l
    split <;> simp <;> omega
theorem gap_take : ∀ (m : Nat) (c : Bool) (l : Bytes), gapF c (l.take m) = min m (gapF c l)
  | 0, c, l => by simp [gapF]
  | m + 1, c, [] => by simp [gapF]
  | m + 1, c, x :: l => by
    rw [List.take_succ_cons]
    unfold gapF
    rw [gap_take m]
    split <;> omega
theorem run_take (p : UInt8 → Bool) : ∀ (m : Nat) (l : Bytes), runF p (l.take m) = min m (runF p l)
  | 0, l => by simp [runF]
  | m + 1, [] => by simp [runF]
  | m + 1, x :: l => by
    rw [List.take_succ_cons]
    unfold runF
    rw [run_take p m]
    split <;> omega
theorem gap_app : ∀ (c : Bool) (l m : Bytes), gapF c l < l.length → gapF c (l ++ m) = gapF c l
  | _, [], _, h => by simp at h
  | c, x :: l, m, h => by
    unfold gapF at h ⊢
    rw [List.cons_append]
    dsimp only
    split at h
    · rename_i h1
      rw [if_pos h1, if_pos h1, gap_app _ l m (by simp at h; omega)]
    · rename_i h1
      rw [if_neg h1, if_neg h1]
theorem gap_app_le : ∀ (c : Bool) (l m : Bytes), gapF c l = l.length → l.length ≤ gapF c (l ++ m)
  | _, [], _, _ => Nat.zero_le _
  | c, x :: l, m, h => by
    unfold gapF at h ⊢
    rw [List.cons_append]
    dsimp only
    split at h
    · rename_i h1
      rw [if_pos h1]
      have := gap_app_le _ l m (by simpa using h)
      simp
      exact this
    · simp at h
theorem run_app (p : UInt8 → Bool) {b : UInt8} (hb : p b = false) : ∀ (l m : Bytes), runF p (l ++ b :: m) = runF p l
  | [], m => by simp [runF, hb]
  | x :: l, m => by
    rw [List.cons_append]
    unfold runF
    rw [run_app p hb l m]
/-- the byte at which a gap ends -/
theorem gap_stop : ∀ (c : Bool) (l : Bytes) (x : UInt8) (r : Bytes), l.drop (gapF c l) = x :: r → isBl x = false ∧ (x == 35) = false
  | _, [], x, r, h => by simp at h
  | c, y :: l, x, r, h => by
    unfold gapF at h
    split at h
    · rw [List.drop_succ_cons] at h
      exact gap_stop _ l x r h
    · rename_i h1
      simp at h
      obtain ⟨rfl, rfl⟩ := h
      simp at h1
      simp [h1]
theorem gap_none {x : UInt8} {l : Bytes} (h1 : isBl x = false) (h2 : (x == 35) = false) : gapF false (x :: l) = 0 := by
  unfold gapF
  simp [h1, h2]
theorem run_all (p : UInt8 → Bool) : ∀ (l : Bytes), ∀ b ∈ l.take (runF p l), p b = true
  | [], b, h => by simp at h
  | x :: l, b, h => by
    unfold runF at h
    split at h
    · rename_i hx
      rw [List.take_succ_cons] at h
      rcases List.mem_cons.1 h with rfl | h
      · exact hx
      · exact run_all p l b h
    · simp at h

/-! ### Signs, numbers, tokens -/
def signF : Bytes → Nat
  | [] => 0
  | x :: l => if twos.contains ((x :: l).take 2) then 2 else if isOne x then 1 else 0
theorem sign_cons (x : UInt8) (l : Bytes) : signF (x :: l) = if twos.contains ((x :: l).take 2) then 2 else if isOne x then 1 else 0 := rfl
def valF (l : Bytes) : Nat := l.foldl (fun v b => 10 * v + (b.toNat - 48)) 0
theorem val_snoc (l : Bytes) (b : UInt8) : valF (l ++ [b]) = 10 * valF l + (b.toNat - 48) := by simp [valF]
structure Tk where
  kind : Nat
  len : Nat
  num : Nat
deriving DecidableEq
/-- what stands at the head of l: an error, or a token -/
def tokF (l : Bytes) : Nat ⊕ Tk :=
  match l with
  | [] => .inl 4
  | x :: r =>
    if isLet x then (if 24 < runF isIn (x :: r) then .inl 5 else .inr ⟨1, runF isIn (x :: r), 0⟩)
    else if isDgt x then (if (x == 48 && decide (1 < runF isDgt (x :: r))) || decide (1073741824 < valF ((x :: r).take (runF isDgt (x :: r)))) then .inl 2 else .inr ⟨2, runF isDgt (x :: r), valF ((x :: r).take (runF isDgt (x :: r)))⟩)
    else if signF (x :: r) = 0 then .inl 4 else .inr ⟨3, signF (x :: r), 0⟩

theorem two_len {l : Bytes} (h : twos.contains l = true) : l.length = 2 := by
  simp [twos] at h
  rcases h with rfl | rfl | rfl | rfl | rfl | rfl | rfl | rfl | rfl <;> rfl
theorem two_sep {x b : UInt8} (hb : isSep b = true) : twos.contains [x, b] = false := by
  simp [isSep] at hb
  rcases hb with ((rfl | rfl) | rfl) | rfl <;> simp [twos]
theorem sep_in {b : UInt8} (hb : isSep b = true) : isIn b = false ∧ isDgt b = false := by
  simp [isSep] at hb
  rcases hb with ((rfl | rfl) | rfl) | rfl <;> decide
theorem two_one {x : UInt8} : twos.contains [x] = false := by simp [twos]
theorem sign_le (l : Bytes) : signF l ≤ l.length := by
  cases l with
  | nil => exact Nat.zero_le _
  | cons x l =>
    rw [sign_cons]
    split
    · rename_i h
      have := two_len h
      simp at this ⊢
      omega
    · split <;> simp
theorem sign_take {l : Bytes} {m : Nat} (h : signF l ≤ m) (h0 : 0 < m) : signF (l.take m) = signF l := by
  cases l with
  | nil => simp
  | cons x l =>
    obtain ⟨m, rfl⟩ : ∃ k, m = k + 1 := ⟨m - 1, by omega⟩
    rw [List.take_succ_cons]
    rw [sign_cons] at h
    rw [sign_cons, sign_cons]
    by_cases h1 : 1 ≤ m
    · have e : (x :: l.take m).take 2 = (x :: l).take 2 := by
        rw [List.take_succ_cons, List.take_succ_cons, List.take_take]
        congr 2
        omega
      rw [e]
    · obtain rfl : m = 0 := by omega
      split at h
      · omega
      · rename_i h1
        have e : (x :: l.take 0).take 2 = [x] := by simp
        rw [if_neg h1, e, two_one]
        rfl
theorem sign_app {x b : UInt8} {l m : Bytes} (hb : isSep b = true) : signF ((x :: l) ++ b :: m) = signF (x :: l) := by
  rw [List.cons_append]
  rw [sign_cons, sign_cons]
  cases l with
  | nil =>
    have e : (x :: ([] ++ b :: m)).take 2 = [x, b] := rfl
    rw [e, two_sep hb]
    have e2 : ([x] : Bytes).take 2 = [x] := rfl
    rw [e2, two_one]
  | cons y l => rfl

theorem in_let {x : UInt8} (h : isLet x = true) : isIn x = true := by simp [isIn, h]
theorem tok_len {l : Bytes} {t : Tk} (h : tokF l = .inr t) : 1 ≤ t.len ∧ t.len ≤ l.length := by
  unfold tokF at h
  split at h
  · cases h
  · rename_i x r
    split at h
    · rename_i hx
      split at h
      · cases h
      · injection h with h
        subst h
        have h1 := run_le isIn (x :: r)
        have h2 : runF isIn (x :: r) = runF isIn r + 1 := by rw [runF, if_pos (in_let hx)]
        exact ⟨by dsimp only; omega, h1⟩
    · split at h
      · rename_i hx
        split at h
        · cases h
        · injection h with h
          subst h
          have h1 := run_le isDgt (x :: r)
          have h2 : runF isDgt (x :: r) = runF isDgt r + 1 := by rw [runF, if_pos hx]
          exact ⟨by dsimp only; omega, h1⟩
      · split at h
        · cases h
        · rename_i h1
          injection h with h
          subst h
          exact ⟨by dsimp only; omega, sign_le (x :: r)⟩
theorem take_pos {x : UInt8} {r : Bytes} {m : Nat} (h : 0 < m) : (x :: r).take m = x :: r.take (m - 1) := by
  obtain ⟨m, rfl⟩ : ∃ k, m = k + 1 := ⟨m - 1, by omega⟩
  rfl
/-- a token does not hang on what stands behind it -/
theorem tok_take {l : Bytes} {t : Tk} {m : Nat} (h : tokF l = .inr t) (hm : t.len ≤ m) : tokF (l.take m) = .inr t := by
  have hl := tok_len h
  have h0 : 0 < m := by omega
  cases l with
  | nil => cases h
  | cons x r =>
    rw [take_pos h0]
    have hin := run_take isIn m (x :: r)
    have hdg := run_take isDgt m (x :: r)
    rw [take_pos h0] at hin hdg
    unfold tokF at h ⊢
    dsimp only at h ⊢
    split at h
    · rename_i hx
      rw [if_pos hx]
      split at h
      · cases h
      · rename_i h1
        injection h with h
        subst h
        dsimp only at hm
        rw [hin, Nat.min_eq_right hm, if_neg h1]
    · rename_i hx
      rw [if_neg hx]
      split at h
      · rename_i hd
        rw [if_pos hd]
        split at h
        · cases h
        · rename_i h1
          injection h with h
          subst h
          dsimp only at hm
          have e : (x :: r.take (m - 1)).take (runF isDgt (x :: r)) = (x :: r).take (runF isDgt (x :: r)) := by
            rw [← take_pos h0, List.take_take, Nat.min_eq_left hm]
          rw [hdg, Nat.min_eq_right hm, e, if_neg h1]
      · rename_i hd
        rw [if_neg hd]
        split at h
        · cases h
        · rename_i h1
          injection h with h
          subst h
          dsimp only at hm
          have e := sign_take hm h0
          rw [take_pos h0] at e
          rw [e, if_neg h1]
theorem tok_app {l m : Bytes} {b : UInt8} (h : l ≠ []) (hb : isSep b = true) : tokF (l ++ b :: m) = tokF l := by
  cases l with
  | nil => exact absurd rfl h
  | cons x r =>
    obtain ⟨h1, h2⟩ := sep_in hb
    have e1 := run_app isIn h1 (x :: r) m
    have e2 := run_app isDgt h2 (x :: r) m
    have e3 := sign_app (x := x) (l := r) (m := m) hb
    rw [List.cons_append] at e1 e2 e3 ⊢
    unfold tokF
    dsimp only
    have e4 : (x :: (r ++ b :: m)).take (runF isDgt (x :: r)) = (x :: r).take (runF isDgt (x :: r)) := by
      rw [← List.cons_append, List.take_append_of_le_length (run_le _ _)]
    rw [e1, e2, e3, e4]
theorem tok_head {l : Bytes} {t : Tk} (h : tokF l = .inr t) : ∃ x r, l = x :: r ∧ isBl x = false ∧ (x == 35) = false := by
  cases l with
  | nil => cases h
  | cons x r =>
    refine ⟨x, r, rfl, ?_⟩
    by_cases h1 : isBl x = true
    · exfalso
      simp [isBl] at h1
      have : isLet x = false ∧ isDgt x = false ∧ isOne x = false ∧ ∀ l : Bytes, twos.contains ((x :: l).take 2) = false := by
        rcases h1 with ((rfl | rfl) | rfl) | rfl <;> exact ⟨by decide, by decide, by decide, fun l => by cases l <;> simp [twos]⟩
      unfold tokF signF at h
      simp only [this.1, this.2.1, this.2.2.1, this.2.2.2] at h
      simp at h
    · by_cases h2 : (x == 35) = true
      · exfalso
        simp at h2
        subst h2
        have : isLet 35 = false ∧ isDgt 35 = false ∧ isOne 35 = false ∧ ∀ l : Bytes, twos.contains (((35 : UInt8) :: l).take 2) = false := ⟨by decide, by decide, by decide, fun l => by cases l <;> simp [twos]⟩
        unfold tokF signF at h
        simp only [this.1, this.2.1, this.2.2.1, this.2.2.2] at h
        simp at h
      · exact ⟨by simpa using h1, by simpa using h2⟩

/-! ### The scan -/
structure Tok where
  kind : Nat
  at_ : Nat
  end_ : Nat
  num : Nat
deriving DecidableEq
def tokOf (i : Nat) (t : Tk) : Tok := ⟨t.kind, i, i + t.len, t.num⟩

/-- the tokens of l from place i on, where k tokens stand before it; or place and number of the first error -/
def scanN : Nat → Nat → Nat → Bytes → (Nat × Nat) ⊕ List Tok
  | 0, _, _, _ => .inr []
  | n + 1, k, i, l =>
    if gapF false l < l.length then
      if k = 4096 then .inl (i + gapF false l, 3)
      else match tokF (l.drop (gapF false l)) with
        | .inl e => .inl (i + gapF false l, e)
        | .inr t => match scanN n (k + 1) (i + gapF false l + t.len) (l.drop (gapF false l + t.len)) with
          | .inl e => .inl e
          | .inr ts => .inr (tokOf (i + gapF false l) t :: ts)
    else .inr []
def scanG (k i : Nat) (l : Bytes) : (Nat × Nat) ⊕ List Tok := scanN (l.length + 1) k i l
def scanB (l : Bytes) : (Nat × Nat) ⊕ List Tok := if 16384 < l.length then .inl (0, 3) else scanG 0 0 l

theorem scanN_enough : ∀ (n m k i : Nat) (l : Bytes), l.length < n → l.length < m → scanN n k i l = scanN m k i l
  | 0, _, _, _, _, h, _ => absurd h (Nat.not_lt_zero _)
  | _, 0, _, _, _, _, h => absurd h (Nat.not_lt_zero _)
  | n + 1, m + 1, k, i, l, hn, hm => by
    unfold scanN
    split
    · rename_i hg
      split
      · rfl
      · cases ht : tokF (l.drop (gapF false l)) with
        | inl e => rfl
        | inr t =>
          have h1 := tok_len ht
          simp at h1
          dsimp only
          have e := scanN_enough n m (k + 1) (i + gapF false l + t.len) (l.drop (gapF false l + t.len)) (by simp; omega) (by simp; omega)
          rw [e]
    · rfl
/-- behind the tokens ts, from place i on with the rest l, the place behind the gap is j and the rest there is r -/
inductive Run : Nat → Bytes → List Tok → Nat → Bytes → Prop
  | nil (i : Nat) (l : Bytes) : Run i l [] (i + gapF false l) (l.drop (gapF false l))
  | cons {i : Nat} {l : Bytes} {t : Tk} {ts : List Tok} {j : Nat} {r : Bytes} (h : tokF (l.drop (gapF false l)) = .inr t)
      (hr : Run (i + gapF false l + t.len) (l.drop (gapF false l + t.len)) ts j r) : Run i l (tokOf (i + gapF false l) t :: ts) j r

theorem Run.sizes {i : Nat} {l : Bytes} {ts : List Tok} {j : Nat} {r : Bytes} (h : Run i l ts j r) : j + r.length = i + l.length ∧ ts.length + r.length ≤ l.length ∧ r = l.drop (j - i) ∧ i ≤ j ∧ gapF false r = 0 := by
  induction h with
  | nil i l =>
    have := gap_le false l
    refine ⟨by simp; omega, by simp, by rw [Nat.add_sub_cancel_left], by omega, ?_⟩
    cases hd : l.drop (gapF false l) with
    | nil => rfl
    | cons x r =>
      obtain ⟨h1, h2⟩ := gap_stop _ _ _ _ hd
      exact gap_none h1 h2
  | @cons i l t ts j r h hr ih =>
    have := tok_len h
    simp at this ih
    obtain ⟨ih1, ih2, ih3, ih4, ih5⟩ := ih
    refine ⟨by omega, by simp; omega, ?_, by omega, ih5⟩
    rw [ih3]
    congr 1
    omega
theorem scanG_step {k i : Nat} {l : Bytes} : scanG k i l = if gapF false l < l.length then
      if k = 4096 then .inl (i + gapF false l, 3)
      else match tokF (l.drop (gapF false l)) with
        | .inl e => .inl (i + gapF false l, e)
        | .inr t => match scanG (k + 1) (i + gapF false l + t.len) (l.drop (gapF false l + t.len)) with
          | .inl e => .inl e
          | .inr ts => .inr (tokOf (i + gapF false l) t :: ts)
    else .inr [] := by
  unfold scanG
  rw [scanN]
  split
  · rename_i hg
    split
    · rfl
    · cases ht : tokF (l.drop (gapF false l)) with
      | inl e => rfl
      | inr t =>
        have h1 := tok_len ht
        simp at h1
        dsimp only
        have e := scanN_enough l.length ((l.drop (gapF false l + t.len)).length + 1) (k + 1) (i + gapF false l + t.len) (l.drop (gapF false l + t.len)) (by simp; omega) (by omega)
        rw [e]
  · rfl
/-- what is found behind the tokens ts goes on from there -/
def andThen (ts : List Tok) : (Nat × Nat) ⊕ List Tok → (Nat × Nat) ⊕ List Tok
  | .inl e => .inl e
  | .inr us => .inr (ts ++ us)
theorem andThen_nil (x : (Nat × Nat) ⊕ List Tok) : andThen [] x = x := by cases x <;> rfl
theorem andThen_app (a b : List Tok) (x : (Nat × Nat) ⊕ List Tok) : andThen (a ++ b) x = andThen a (andThen b x) := by cases x <;> simp [andThen]
/-- the scan of a rest at whose head there is no gap -/
def scanR (k j : Nat) (r : Bytes) : (Nat × Nat) ⊕ List Tok :=
  if r = [] then .inr []
  else if k = 4096 then .inl (j, 3)
  else match tokF r with
    | .inl e => .inl (j, e)
    | .inr t => match scanG (k + 1) (j + t.len) (r.drop t.len) with
      | .inl e => .inl e
      | .inr ts => .inr (tokOf j t :: ts)
theorem scanG_R (k i : Nat) (l : Bytes) : scanG k i l = scanR k (i + gapF false l) (l.drop (gapF false l)) := by
  have hle := gap_le false l
  rw [scanG_step]
  unfold scanR
  by_cases hg : gapF false l < l.length
  · have hne : l.drop (gapF false l) ≠ [] := by
      intro e
      have := congrArg List.length e
      simp at this
      omega
    rw [if_pos hg, if_neg hne]
    simp only [List.drop_drop]
  · have he : l.drop (gapF false l) = [] := List.drop_eq_nil_of_le (by omega)
    rw [if_neg hg, if_pos he]
theorem scanR_tok {k j : Nat} {r : Bytes} {t : Tk} (h : tokF r = .inr t) (hk : k ≠ 4096) : scanR k j r = andThen [tokOf j t] (scanG (k + 1) (j + t.len) (r.drop t.len)) := by
  have hne : r ≠ [] := by rintro rfl; cases h
  unfold scanR
  rw [if_neg hne, if_neg hk, h]
  dsimp only
  cases scanG (k + 1) (j + t.len) (r.drop t.len) <;> rfl
theorem Run.scan {i : Nat} {l : Bytes} {ts : List Tok} {j : Nat} {r : Bytes} (h : Run i l ts j r) : ∀ {k : Nat}, k + ts.length ≤ 4096 → scanG k i l = andThen ts (scanR (k + ts.length) j r) := by
  induction h with
  | nil i l =>
    intro k _
    rw [andThen_nil, scanG_R]
    rfl
  | @cons i l t ts j r h hr ih =>
    intro k hk
    simp at hk
    rw [scanG_R, scanR_tok h (by omega), List.drop_drop, ih (by omega), ← andThen_app]
    simp
    congr 2
    omega
theorem scan_ok : ∀ (n : Nat) {k i : Nat} {l : Bytes} {ts : List Tok}, l.length ≤ n → k ≤ 4096 → scanG k i l = .inr ts → Run i l ts (i + l.length) [] ∧ k + ts.length ≤ 4096 := by
  intro n
  induction n with
  | zero =>
    intro k i l ts hn hk h
    obtain rfl : l = [] := List.length_eq_zero_iff.1 (by omega)
    rw [scanG_step] at h
    simp [gapF] at h
    subst h
    exact ⟨Run.nil i [], by simpa using hk⟩
  | succ n ih =>
    intro k i l ts hn hk h
    have hle := gap_le false l
    rw [scanG_step] at h
    split at h
    · rename_i hg
      split at h
      · cases h
      · rename_i hk2
        split at h
        · cases h
        · rename_i t ht
          have h1 := tok_len ht
          simp at h1
          split at h
          · cases h
          · rename_i us hus
            injection h with h
            subst h
            obtain ⟨h2, h3⟩ := ih (by simp; omega) (by omega) hus
            simp at h2
            rw [show i + gapF false l + t.len + (l.length - (gapF false l + t.len)) = i + l.length by omega] at h2
            exact ⟨.cons ht h2, by simp; omega⟩
    · injection h with h
      subst h
      have e : l.drop (gapF false l) = [] := List.drop_eq_nil_of_le (by omega)
      have := Run.nil i l
      rw [e, show gapF false l = l.length by omega] at this
      exact ⟨this, by simpa using hk⟩
theorem scan_err : ∀ (n : Nat) {k i : Nat} {l : Bytes} {p e : Nat}, l.length ≤ n → k ≤ 4096 → scanG k i l = .inl (p, e) → ∃ ts r, Run i l ts p r ∧ r ≠ [] ∧ ((k + ts.length = 4096 ∧ e = 3) ∨ (k + ts.length < 4096 ∧ tokF r = .inl e)) := by
  intro n
  induction n with
  | zero =>
    intro k i l p e hn hk h
    obtain rfl : l = [] := List.length_eq_zero_iff.1 (by omega)
    rw [scanG_step] at h
    simp [gapF] at h
  | succ n ih =>
    intro k i l p e hn hk h
    have hle := gap_le false l
    rw [scanG_step] at h
    split at h
    · rename_i hg
      have hne : l.drop (gapF false l) ≠ [] := by
        intro e
        have := congrArg List.length e
        simp at this
        omega
      split at h
      · rename_i hk2
        injection h with h
        injection h with h1 h2
        subst h1 h2
        exact ⟨[], _, .nil i l, hne, .inl ⟨by simpa using hk2, rfl⟩⟩
      · rename_i hk2
        split at h
        · rename_i e2 ht
          injection h with h
          injection h with h1 h2
          subst h1 h2
          exact ⟨[], _, .nil i l, hne, .inr ⟨by simp; omega, ht⟩⟩
        · rename_i t ht
          have h1 := tok_len ht
          simp at h1
          split at h
          · rename_i e2 hus
            injection h with h
            subst h
            obtain ⟨ts, r, h2, h3, h4⟩ := ih (by simp; omega) (by omega) hus
            refine ⟨_, r, .cons ht h2, h3, ?_⟩
            rcases h4 with ⟨h4, h5⟩ | ⟨h4, h5⟩
            · exact .inl ⟨by simp; omega, h5⟩
            · exact .inr ⟨by simp; omega, h5⟩
          · cases h
    · cases h
end Go.Proofs.Ytebhfcjkaoldmaa
