/- What Depth, Nest and Valid of the specification of layer 5 answer. -/
import Derived.Test.YtckofngclgkajaaBase
import Derived.Deep.AppendLies
import Derived.Deep.RegionLaw
import Derived.Laws.OwnMore
import Derived.OrdersHeld
import Derived.RegionTactic
import Derived.KernelRfl
import Derived.Tactics
import Derived.IntWalk
namespace Go.Proofs.Ytckofngclgkajaa

/-- the number of operands of an operation; -1 if it is none -/
def arF (op : Int) : Int := if 1 ≤ op ∧ op ≤ 17 then 0 else if 18 ≤ op ∧ op ≤ 29 then 1 else if 30 ≤ op ∧ op ≤ 42 then 2 else if op = 43 then 3 else -1
theorem arF_le (op : Int) : -1 ≤ arF op ∧ arF op ≤ 3 := by unfold arF; repeat' split <;> omega
/-- whether an operation is an aggregate -/
def aggF (op : Int) : Bool := decide (20 ≤ op ∧ op ≤ 29)

/-- how many terms of a list so many expressions take, one behind the other -/
def eat : List (Int × Int) → Nat → Option Nat
  | _, 0 => some 0
  | [], _ + 1 => none
  | t :: ts, w + 1 => if arF t.1 < 0 then none else (eat ts (w + (arF t.1).toNat)).map (· + 1)
theorem eat_zero (ts : List (Int × Int)) : eat ts 0 = some 0 := by cases ts <;> rfl
theorem eat_nil (w : Nat) : eat [] (w + 1) = none := rfl
theorem eat_cons (t : Int × Int) (ts : List (Int × Int)) (w : Nat) : eat (t :: ts) (w + 1) = if arF t.1 < 0 then none else (eat ts (w + (arF t.1).toNat)).map (· + 1) := rfl
theorem eat_add : ∀ (ts : List (Int × Int)) (a b : Nat), eat ts (a + b) = (eat ts a).bind fun n => (eat (ts.drop n) b).map (n + ·)
  | ts, 0, b => by
    rw [eat_zero, Nat.zero_add]
    simp
  | [], a + 1, b => by
    rw [show a + 1 + b = (a + b) + 1 by omega, eat_nil, eat_nil]
    rfl
  | t :: ts, a + 1, b => by
    rw [show a + 1 + b = (a + b) + 1 by omega, eat_cons, eat_cons]
    split
    · rfl
    · rw [show a + b + (arF t.1).toNat = (a + (arF t.1).toNat) + b by omega, eat_add ts _ b]
      cases eat ts (a + (arF t.1).toNat) with
      | none => rfl
      | some n =>
        simp only [Option.bind_some, Option.map_some, List.drop_succ_cons, Option.map_map]
        congr 1
        funext x
        simp
        omega
theorem eat_le : ∀ {ts : List (Int × Int)} {w n : Nat}, eat ts w = some n → w ≤ n ∧ n ≤ ts.length
  | ts, 0, n, h => by
    rw [eat_zero] at h
    cases h
    omega
  | [], w + 1, n, h => by rw [eat_nil] at h; cases h
  | t :: ts, w + 1, n, h => by
    rw [eat_cons] at h
    split at h
    · cases h
    · cases hk : eat ts (w + (arF t.1).toNat) with
      | none => rw [hk] at h; cases h
      | some m =>
        rw [hk] at h
        have e : m + 1 = n := by simpa using h
        have := eat_le hk
        simp
        omega
theorem eat_part : ∀ {ts : List (Int × Int)} {w n : Nat} (us : List (Int × Int)), eat ts w = some n → eat (ts ++ us) w = some n
  | ts, 0, n, us, h => by
    rw [eat_zero] at h ⊢
    exact h
  | [], w + 1, n, us, h => by rw [eat_nil] at h; cases h
  | t :: ts, w + 1, n, us, h => by
    rw [eat_cons] at h
    rw [List.cons_append, eat_cons]
    split at h
    · cases h
    · rename_i hk
      rw [if_neg hk]
      cases hm : eat ts (w + (arF t.1).toNat) with
      | none => rw [hm] at h; cases h
      | some m =>
        rw [hm] at h
        rw [eat_part us hm]
        exact h
theorem eat_take : ∀ {ts : List (Int × Int)} {w n : Nat}, eat ts w = some n → eat (ts.take n) w = some n
  | ts, 0, n, h => by
    rw [eat_zero] at h ⊢
    exact h
  | [], w + 1, n, h => by rw [eat_nil] at h; cases h
  | t :: ts, w + 1, n, h => by
    rw [eat_cons] at h
    split at h
    · cases h
    · rename_i hk
      cases hm : eat ts (w + (arF t.1).toNat) with
      | none => rw [hm] at h; cases h
      | some m =>
        rw [hm] at h
        have e : m + 1 = n := by simpa using h
        subst e
        rw [List.take_succ_cons, eat_cons, if_neg hk, eat_take hm]
        rfl

/-- the place behind the expression that begins at a place; -1 if none does -/
def endF (xs : List (Int × Int)) (p : Int) : Int :=
  if 0 ≤ p ∧ p < xs.length then (match eat (xs.drop p.toNat) 1 with
    | some n => p + n
    | none => -1) else -1
theorem endF_out {xs : List (Int × Int)} {p : Int} (h : ¬ (0 ≤ p ∧ p < xs.length)) : endF xs p = -1 := by unfold endF; rw [if_neg h]
theorem endF_none {xs : List (Int × Int)} {p : Nat} (h : eat (xs.drop p) 1 = none) : endF xs p = -1 := by
  unfold endF
  split
  · rw [Int.toNat_natCast, h]
  · rfl
theorem endF_some {xs : List (Int × Int)} {p n : Nat} (h : eat (xs.drop p) 1 = some n) : endF xs p = (p + n : Nat) := by
  have hl := eat_le h
  rw [List.length_drop] at hl
  unfold endF
  rw [if_pos (by omega), Int.toNat_natCast, h]
  simp
theorem endF_le (xs : List (Int × Int)) (p : Int) : -1 ≤ endF xs p ∧ endF xs p ≤ xs.length := by
  unfold endF
  split
  · rename_i h
    split
    · rename_i n hn
      have hl := eat_le hn
      rw [List.length_drop] at hl
      omega
    · omega
  · omega
/-- what is known amid the count: i terms are read, w expressions are wanted -/
def Amid (xs : List (Int × Int)) (p i w : Nat) : Prop := p ≤ i ∧ i ≤ xs.length ∧ eat (xs.drop p) 1 = (eat (xs.drop i) (w + 1)).map (· + (i - p))
theorem Amid.start {xs : List (Int × Int)} {p : Nat} (h : p ≤ xs.length) : Amid xs p p 0 := ⟨Nat.le_refl _, h, by simp⟩
theorem drop_tm {xs : List (Int × Int)} {i : Nat} (h : i < xs.length) : xs.drop i = (toA xs i, wtA xs i) :: xs.drop (i + 1) := by
  simp [toA, wtA, h]
  exact List.drop_eq_getElem_cons h
theorem Amid.bad {xs : List (Int × Int)} {p i w : Nat} (h : Amid xs p i w) (hi : i < xs.length) (ha : arF (toA xs i) < 0) : endF xs p = -1 := by
  obtain ⟨h1, h2, h3⟩ := h
  rw [drop_tm hi, eat_cons, if_pos ha] at h3
  exact endF_none h3
theorem Amid.over {xs : List (Int × Int)} {p w : Nat} (h : Amid xs p xs.length w) : endF xs p = -1 := by
  obtain ⟨h1, h2, h3⟩ := h
  rw [List.drop_length, eat_nil] at h3
  exact endF_none h3
theorem Amid.found {xs : List (Int × Int)} {p i : Nat} (h : Amid xs p i 0) (hi : i < xs.length) (ha : arF (toA xs i) = 0) : endF xs p = (i + 1 : Nat) := by
  obtain ⟨h1, h2, h3⟩ := h
  rw [drop_tm hi, eat_cons, if_neg (by dsimp only; omega), show (0 : Nat) + (arF (toA xs i, wtA xs i).1).toNat = 0 by dsimp only; omega, eat_zero] at h3
  simp only [Option.map_some] at h3
  rw [endF_some h3]
  omega
theorem Amid.next {xs : List (Int × Int)} {p i w v : Nat} (h : Amid xs p i w) (hi : i < xs.length) (ha : 0 ≤ arF (toA xs i)) (hv : (v : Int) + 1 = w + arF (toA xs i)) : Amid xs p (i + 1) v := by
  obtain ⟨h1, h2, h3⟩ := h
  refine ⟨by omega, hi, ?_⟩
  rw [h3, drop_tm hi, eat_cons, if_neg (by dsimp only; omega), show w + (arF (toA xs i, wtA xs i).1).toNat = v + 1 by dsimp only; omega, Option.map_map]
  congr 1
  funext x
  simp
  omega

/-- whether a list is one expression -/
def oneB (xs : List (Int × Int)) : Bool := decide (0 < xs.length ∧ endF xs 0 = xs.length)
/-- the place of an operand, if there is one -/
def placeF (xs : List (Int × Int)) (p : Int) : Nat → Int
  | 0 => p + 1
  | k + 1 => endF xs (placeF xs p k)
def opdF (xs : List (Int × Int)) (p k : Int) : Int := if endF xs p < 0 ∨ k < 0 ∨ arF (toA xs p.toNat) ≤ k then -1 else placeF xs p k.toNat
theorem endF_in {xs : List (Int × Int)} {p : Int} (h : ¬ endF xs p < 0) : 0 ≤ p ∧ p < xs.length := by
  by_cases hp : 0 ≤ p ∧ p < xs.length
  · exact hp
  · rw [endF_out hp] at h
    omega
theorem placeF_le {xs : List (Int × Int)} {p : Int} (hp : 0 ≤ p ∧ p < xs.length) : ∀ k, -1 ≤ placeF xs p k ∧ placeF xs p k ≤ xs.length
  | 0 => by unfold placeF; omega
  | k + 1 => endF_le xs _
/-- whether an argument is permitted -/
def argB (t : Int × Int) (vars : Int) : Bool :=
  if t.1 = 1 then decide (0 ≤ t.2 ∧ t.2 ≤ 1073741824) else if t.1 = 5 ∨ t.1 = 12 then decide (0 ≤ t.2 ∧ t.2 < vars) else decide (t.2 = 0)
theorem terms_ext {xs ys : List (Int × Int)} (hl : xs.length = ys.length) (h : ∀ i, i < xs.length → toA xs i = toA ys i ∧ wtA xs i = wtA ys i) : xs = ys := by
  apply List.ext_getElem hl
  intro i h1 h2
  have := h i h1
  simp only [toA, wtA, List.getD, List.getElem?_eq_getElem h1, List.getElem?_eq_getElem h2, Option.getD_some] at this
  exact Prod.ext this.1 this.2
end Go.Proofs.Ytckofngclgkajaa
namespace Go.Proofs.Ytckofngclgkajaa
open Go.RowKit

set_option linter.unusedSimpArgs false in
theorem arityR_any (op : Int) (w : World) : Calls Try.prog 21 #[.int .i64 op] w fun e w' => e = .returned (.int .i64 (arF op)) ∧ w' = w := by
  by_cases h1 : 1 ≤ op
  all_goals by_cases h2 : op ≤ 17
  all_goals by_cases h3 : 18 ≤ op
  all_goals by_cases h4 : op ≤ 29
  all_goals by_cases h5 : 30 ≤ op
  all_goals by_cases h6 : op ≤ 42
  all_goals by_cases h7 : op = 43
  all_goals first
    | omega
    | (have h9 : arF op = arF op := rfl
       conv at h9 => rhs; unfold arF
       simp only [h1, h2, h3, h4, h5, h6, h7, and_true, true_and, and_false, false_and, if_true, if_false] at h9
       go_enter Try.func21, Try.ntmps21
       go_wp2
       go_ret
       exact ⟨rfl, rfl⟩)
theorem aggR_any (op : Int) (w : World) : Calls Try.prog 20 #[.int .i64 op] w fun e w' => e = .returned (.bool (aggF op)) ∧ w' = w := by
  unfold aggF
  by_cases h1 : 20 ≤ op
  all_goals by_cases h2 : op ≤ 29
  all_goals first
    | omega
    | (go_enter Try.func20, Try.ntmps20
       go_wp2
       go_ret
       exact ⟨ret_bool (by rw [Bool.eq_iff_iff] <;> simp <;> omega), rfl⟩)

set_option maxHeartbeats 1000000 in
theorem endR_any (a : Option Addr) (c : Nat) (xs : List (Int × Int)) (p : Int) (w : World) (hX : LinksAt w a xs) (hn : xs.length ≤ 1000000) :
    Calls Try.prog 23 #[.slice a xs.length c, .int .i64 p] w fun e w' => e = .returned (.int .i64 (endF xs p)) ∧ Below w.heap.size w w' := by
  by_cases h0 : 0 ≤ p
  case neg =>
    have he : endF xs p = -1 := endF_out (by omega)
    generalize endF xs p = z at he ⊢
    subst he
    generalize xs.length = m
    clear hX hn
    go_enter Try.func23, Try.ntmps23
    go_wp2
    go_ret
    exact ⟨rfl, by first | exact Below.refl _ _ | exact belDraws (Below.refl _ _) _⟩
  obtain ⟨q, rfl⟩ : ∃ q : Nat, p = q := ⟨p.toNat, by omega⟩
  by_cases h1 : q < xs.length
  case neg =>
    have he : endF xs q = -1 := endF_out (by omega)
    rw [he]
    clear he hX hn
    generalize xs.length = m at h1 ⊢
    have d1 : decide ((q : Int) ≥ m) = true := by simp; omega
    go_enter Try.func23, Try.ntmps23
    go_wp2
    go_ret
    exact ⟨rfl, by first | exact Below.refl _ _ | exact belDraws (Below.refl _ _) _⟩
  obtain ⟨b, o, rfl, hb, hc⟩ := hX.row (by omega)
  have HC := Lib.hid hc
  have hst := Amid.start (xs := xs) (p := q) (Nat.le_of_lt h1)
  have HSt := Lib.hid hst
  obtain ⟨m, hm⟩ : ∃ m, m = xs.length := ⟨_, rfl⟩
  have HM := Lib.hid hm
  rw [← hm] at h1 hn ⊢
  clear hc hst hX hm
  have d1 : decide ((q : Int) ≥ m) = false := by simp; omega
  have d2 : decide (m ≤ q) = false := by simp; omega
  have d3 : decide ((q : Int) < 0) = false := by simp
  go_enter Try.func23, Try.ntmps23
  go_wp2
  go_loopw [5, 6] (fun s t wr => ∃ i v : Nat, s = .int .i64 ((v : Int) + 1) ∧ t = .int .i64 i ∧ v ≤ 2 * i ∧ Amid xs q i v ∧ Below w.heap.size w wr) (fun _ t _ => m - (intOf t).toNat)
  case atStart => exact ⟨q, 0, rfl, rfl, by omega, HSt.out, by first | exact Below.refl _ _ | exact belDraws (Below.refl _ _) _⟩
  case round =>
    obtain ⟨i, v, rfl, rfl, hv, hA, hbr⟩ := hrel
    have HA := Lib.hid hA
    have HBr := Lib.hid hbr
    have hi := hA.2.1
    rw [← HM.out] at hi
    clear hA hbr
    by_cases hlt : i < m
    · have hxl : i < xs.length := by rw [← HM.out]; exact hlt
      have c0 := (HBr.out.cell (p := ⟨b, o + i * 2, none⟩) hb).trans (HC.out i hxl).1
      have hak := arF_le (toA xs i)
      have HN : Hid (∀ n : Nat, 0 ≤ arF (toA xs i) → (n : Int) + 1 = v + arF (toA xs i) → Amid xs q (i + 1) n) := Lib.hid (fun n => HA.out.next (v := n) hxl)
      have HB := Lib.hid (HA.out.bad hxl)
      have HF : Hid (v = 0 → arF (toA xs i) = 0 → endF xs q = (i + 1 : Nat)) := Lib.hid (fun h0 ha => by subst h0; exact HA.out.found hxl ha)
      generalize toA xs i = op at c0 hak HN HB HF
      have hi0 : (0 : Int) ≤ i := by omega
      have hi1 : (i : Int) < m := by omega
      obtain ⟨k, hk⟩ : ∃ k, arF op = k := ⟨_, rfl⟩
      rw [hk] at hak HN HB HF
      have HK := Lib.hid hk
      clear hk
      by_cases hk0 : 0 ≤ k
      · obtain ⟨n, rfl⟩ : ∃ n : Nat, k = n := ⟨k.toNat, by omega⟩
        have n0 : decide ((n : Int) < 0) = false := by simp
        by_cases hz : v = 0 ∧ n = 0
        · obtain ⟨rfl, rfl⟩ := hz
          have he := HF.out rfl rfl
          clear HN HB HF HSt
          go_wp2_with (go_at_call 21; refine (arityR_any op _).mono ?_; rintro e w1 ⟨rfl, rfl⟩; rw [HK.out])
          go_ret
          exact ⟨ret_int (by rw [he]; simp), by first | exact HBr.out | exact belDraws HBr.out _⟩
        · have hA2 := HN.out (v + n - 1) (by omega) (by omega)
          have hz2 : ((v : Int) + 1 + ((n : Int) - 1) == 0) = false := by rw [beq_eq_false_iff_ne]; omega
          have hz3 : (v : Int) + 1 + ((n : Int) - 1) = ((v + n - 1 : Nat) : Int) + 1 := by omega
          clear HN HB HF HSt
          go_wp2_with (go_at_call 21; refine (arityR_any op _).mono ?_; rintro e w1 ⟨rfl, rfl⟩; rw [HK.out])
          go_roundw
          case rel =>
            exact ⟨i + 1, v + n - 1, rfl, by go_num, by omega, hA2, by first | exact HBr.out | exact belDraws HBr.out _⟩
          case measure => simp [intOf]; omega
      · have he := HB.out (by omega)
        have n0 : decide (k < 0) = true := by simp; omega
        clear HN HB HF HSt
        go_wp2_with (go_at_call 21; refine (arityR_any op _).mono ?_; rintro e w1 ⟨rfl, rfl⟩; rw [HK.out])
        go_ret
        exact ⟨ret_int he.symm, by first | exact HBr.out | exact belDraws HBr.out _⟩
    · obtain rfl : i = m := by omega
      have he : endF xs q = -1 := by
        have h := HA.out
        rw [HM.out] at h
        exact h.over
      clear HSt
      go_wp2
      go_ret
      exact ⟨ret_int he.symm, by first | exact HBr.out | exact belDraws HBr.out _⟩
end Go.Proofs.Ytckofngclgkajaa
namespace Go.Proofs.Ytckofngclgkajaa
open Go.RowKit

theorem oneR_any (a : Option Addr) (c : Nat) (xs : List (Int × Int)) (w : World) (hX : LinksAt w a xs) (hn : xs.length ≤ 1000000) :
    Calls Try.prog 49 #[.slice a xs.length c] w fun e w' => e = .returned (.bool (oneB xs)) ∧ Below w.heap.size w w' := by
  have HE := Lib.hid (endR_any a c xs 0 w hX hn)
  have HO : Hid (oneB xs = (decide (0 < xs.length) && (endF xs 0 == xs.length))) := Lib.hid (by unfold oneB; rw [Bool.eq_iff_iff]; simp)
  generalize oneB xs = b at HO ⊢
  generalize endF xs 0 = z at HO HE
  obtain ⟨m, hm⟩ : ∃ m, m = xs.length := ⟨_, rfl⟩
  rw [← hm] at HO HE hn ⊢
  clear hm hX
  by_cases h0 : 0 < m
  · have d0 : decide ((m : Int) > 0) = true := by simp; omega
    have hb : b = (z == m) := by rw [HO.out]; simp [h0]
    go_enter Try.func49, Try.ntmps49
    go_wp2_with (go_at_call 23; refine HE.out.mono ?_; rintro e w1 ⟨rfl, hb1⟩)
    go_ret
    exact ⟨ret_bool hb.symm, hb1⟩
  · obtain rfl : m = 0 := by omega
    have hb : b = false := by rw [HO.out]; simp
    go_enter Try.func49, Try.ntmps49
    go_wp2
    go_ret
    exact ⟨ret_bool hb.symm, by first | exact Below.refl _ _ | exact belDraws (Below.refl _ _) _⟩

theorem argR_any (op x vars : Int) (w : World) :
    Calls Try.prog 52 #[.agg #[.int .i64 op, .int .i64 x], .int .i64 vars] w fun e w' => e = .returned (.bool (argB (op, x) vars)) ∧ Below w.heap.size w w' := by
  have hbel : ∀ n, Below w.heap.size w ((w.alloc (.cells #[.int .i64 op, .int .i64 x] 38)).drewN n) := fun n => belDraws ((Below.refl _ _).alloc (Nat.le_refl _) _) n
  have HB := Lib.hid hbel
  have HB0 := Lib.hid ((Below.refl w.heap.size w).alloc (Nat.le_refl _) (.cells #[.int .i64 op, .int .i64 x] 38))
  have h0 : argB (op, x) vars = argB (op, x) vars := rfl
  conv at h0 => rhs; unfold argB
  dsimp only at h0
  clear hbel
  by_cases h1 : op = 1
  · subst h1
    rw [if_pos rfl] at h0
    have HE := Lib.hid h0
    generalize argB (1, x) vars = b at HE ⊢
    clear h0
    by_cases g0 : 0 ≤ x
    all_goals by_cases g1 : x ≤ 1073741824
    all_goals first
      | omega
      | (go_enter Try.func52, Try.ntmps52
         go_wp2
         try (go_quiet (fail); go_wp2)
         go_ret
         exact ⟨ret_bool (by rw [HE.out, Bool.eq_iff_iff] <;> simp <;> omega), by first | exact HB0.out | exact HB.out _⟩)
  · rw [if_neg h1] at h0
    by_cases h5 : op = 5 ∨ op = 12
    · rw [if_pos h5] at h0
      have HE := Lib.hid h0
      clear h0
      rcases h5 with rfl | rfl
      all_goals generalize argB _ vars = b at HE ⊢
      all_goals by_cases g0 : 0 ≤ x
      all_goals by_cases g1 : x < vars
      all_goals
        have g2 : decide (0 ≤ x) = decide (0 ≤ x) := rfl
        conv at g2 => rhs; simp only [g0, decide_true, decide_false]
        go_enter Try.func52, Try.ntmps52
        go_wp2
        try (go_quiet (fail); go_wp2)
        go_ret
        exact ⟨ret_bool (by rw [HE.out, Bool.eq_iff_iff] <;> simp <;> omega), by first | exact HB0.out | exact HB.out _⟩
    · rw [if_neg h5] at h0
      have HE := Lib.hid h0
      generalize argB (op, x) vars = b at HE ⊢
      clear h0
      have q1 : (op == 1) = false := by simpa using h1
      have q5 : (op == 5) = false := by rw [beq_eq_false_iff_ne]; exact fun h => h5 (.inl h)
      have q12 : (op == 12) = false := by rw [beq_eq_false_iff_ne]; exact fun h => h5 (.inr h)
      clear h1 h5
      go_enter Try.func52, Try.ntmps52
      go_wp2
      try (go_quiet (fail); go_wp2)
      go_ret
      exact ⟨ret_bool (by rw [HE.out, Bool.eq_iff_iff] <;> simp), by first | exact HB0.out | exact HB.out _⟩

end Go.Proofs.Ytckofngclgkajaa
namespace Go.Proofs.Ytckofngclgkajaa
open Go.RowKit

set_option maxHeartbeats 1000000 in
theorem operandR_any (a : Option Addr) (c : Nat) (xs : List (Int × Int)) (p k : Int) (w : World) (hX : LinksAt w a xs) (hn : xs.length ≤ 1000000) :
    Calls Try.prog 22 #[.slice a xs.length c, .int .i64 p, .int .i64 k] w fun e w' => e = .returned (.int .i64 (opdF xs p k)) ∧ Below w.heap.size w w' := by
  have HE : Hid (∀ (W : World) (q : Int), Below w.heap.size w W → Calls Try.prog 23 #[.slice a xs.length c, .int .i64 q] W fun e w' => e = .returned (.int .i64 (endF xs q)) ∧ Below W.heap.size W w') := Lib.hid (fun W q hb => endR_any a c xs q W (hX.below hb) hn)
  have HX := Lib.hid hX
  obtain ⟨m, hm⟩ : ∃ m, m = xs.length := ⟨_, rfl⟩
  have HM := Lib.hid hm
  rw [← hm] at HE hn ⊢
  clear hm hX
  by_cases he : endF xs p < 0
  · have hf : opdF xs p k = -1 := by unfold opdF; rw [if_pos (.inl he)]
    have d0 : decide (endF xs p < 0) = true := by simpa using he
    generalize opdF xs p k = z at hf ⊢
    subst hf
    have HEp := HE.out w p (Below.refl _ _)
    generalize endF xs p = y at HEp d0
    clear HE he
    have HEp := Lib.hid HEp
    go_enter Try.func22, Try.ntmps22
    go_wp2_with (go_at_call 23; refine HEp.out.mono ?_; rintro e w1 ⟨rfl, hb1⟩)
    go_ret
    exact ⟨rfl, hb1⟩
  obtain ⟨hp0, hp1⟩ := endF_in he
  rw [← HM.out] at hp1
  obtain ⟨q, rfl⟩ : ∃ q : Nat, p = q := ⟨p.toNat, by omega⟩
  have d0 : decide (endF xs q < 0) = false := by simpa using he
  have HEp := Lib.hid (HE.out w q (Below.refl _ _))
  by_cases hk : 0 ≤ k
  case neg =>
    have hf : opdF xs q k = -1 := by unfold opdF; rw [if_pos (.inr (.inl (by omega)))]
    generalize opdF xs q k = z at hf ⊢
    subst hf
    have d1 : decide (k < 0) = true := by simp; omega
    generalize endF xs q = y at HEp d0
    clear HE he
    go_enter Try.func22, Try.ntmps22
    go_wp2_with (go_at_call 23; refine HEp.out.mono ?_; rintro e w1 ⟨rfl, hb1⟩)
    go_ret
    exact ⟨rfl, hb1⟩
  obtain ⟨b, o, rfl, hb, hc⟩ := HX.out.row (by rw [← HM.out]; omega)
  have hcq := (hc q (by rw [← HM.out]; omega)).1
  have HCq := Lib.hid hcq
  have hak := arF_le (toA xs q)
  have hop : opdF xs q k = if arF (toA xs q) ≤ k then -1 else placeF xs q k.toNat := by
    unfold opdF
    rw [Int.toNat_natCast]
    by_cases h : arF (toA xs q) ≤ k
    · rw [if_pos (.inr (.inr h)), if_pos h]
    · rw [if_neg (by omega), if_neg h]
  have hpl := fun j => placeF_le (xs := xs) (p := q) (by rw [← HM.out]; omega) j
  have HPl := Lib.hid hpl
  have d1 : decide (k < 0) = false := by simp; omega
  have hi1 : (q : Int) < m := by omega
  clear hc hcq hpl
  generalize opdF xs q k = z at hop ⊢
  have HOp := Lib.hid hop
  generalize toA xs q = op at HCq hak HOp
  obtain ⟨r, hr⟩ : ∃ r, arF op = r := ⟨_, rfl⟩
  have HR := Lib.hid hr
  rw [hr] at HOp hak
  clear hop hr
  by_cases hkr : r ≤ k
  · have d2 : decide (k ≥ r) = true := by simpa using hkr
    have hz : z = -1 := by rw [HOp.out, if_pos hkr]
    subst hz
    generalize endF xs q = y at HEp d0
    clear HE he HOp
    go_enter Try.func22, Try.ntmps22
    go_wp2_with (first | (go_at_call 23; refine HEp.out.mono ?_; rintro e w1 ⟨rfl, hb1⟩; have c1 := (hb1.cell (p := ⟨b, o + q * 2, none⟩) hb).trans HCq.out) | (go_at_call 21; refine (arityR_any op _).mono ?_; rintro e w2 ⟨rfl, rfl⟩; rw [HR.out]))
    go_ret
    exact ⟨rfl, hb1⟩
  · have d2 : decide (k ≥ r) = false := by simp; omega
    have hz : z = placeF xs q k.toNat := by rw [HOp.out, if_neg hkr]
    obtain ⟨n, rfl⟩ : ∃ n : Nat, k = n := ⟨k.toNat, by omega⟩
    rw [Int.toNat_natCast] at hz
    have HZ := Lib.hid hz
    clear hz HOp
    generalize endF xs q = y at HEp d0
    clear he
    go_enter Try.func22, Try.ntmps22
    go_wp2_with (first | (go_at_call 23; refine HEp.out.mono ?_; rintro e w1 ⟨rfl, hb1⟩; have c1 := (hb1.cell (p := ⟨b, o + q * 2, none⟩) hb).trans HCq.out) | (go_at_call 21; refine (arityR_any op _).mono ?_; rintro e w2 ⟨rfl, rfl⟩; rw [HR.out]))
    have HB1 := Lib.hid hb1
    clear hb1 c1
    go_loopw [7, 8] (fun s t wr => ∃ i : Nat, t = .int .i64 i ∧ i ≤ n ∧ s = .int .i64 (placeF xs q i) ∧ Below w.heap.size w wr) (fun _ t _ => n - (intOf t).toNat)
    case atStart => exact ⟨0, rfl, Nat.zero_le _, rfl, by first | exact HB1.out | exact belDraws HB1.out _⟩
    case round =>
      obtain ⟨i, rfl, hi, rfl, hbr⟩ := hrel
      have HBr := Lib.hid hbr
      clear hbr
      by_cases hlt : i < n
      · have hs : placeF xs q (i + 1) = endF xs (placeF xs q i) := rfl
        have HS := Lib.hid hs
        have HEi := Lib.hid (HE.out wr (placeF xs q i) HBr.out)
        clear hs
        go_wp2_with (go_at_call 23; refine HEi.out.mono ?_; rintro e w3 ⟨rfl, hb3⟩)
        have hb4 := HBr.out.trans (hb3.mono HBr.out.size)
        go_roundw
        case rel => exact ⟨i + 1, by go_num, by omega, by rw [HS.out], hb4⟩
        case measure => simp [intOf]; omega
      · obtain rfl : i = n := by omega
        have hz := HZ.out
        generalize placeF xs q i = y2 at hz ⊢
        subst hz
        go_wp2
        go_ret
        exact ⟨rfl, by first | exact HBr.out | exact belDraws HBr.out _⟩
end Go.Proofs.Ytckofngclgkajaa
namespace Go.Proofs.Ytckofngclgkajaa
open Go.RowKit Go.Deep

/-! ### The stack: its top comes first; an open term stands there with the operands that are still to come and whether it is an aggregate -/
def decF : List (Int × Bool) → List (Int × Bool)
  | [] => []
  | (l, o) :: r => (l - 1, o) :: r
def popD : List (Int × Bool) → List (Int × Bool)
  | [] => []
  | (l, o) :: r => if l - 1 = 0 then popD r else (l - 1, o) :: r
def popF : List (Int × Bool) → List (Int × Bool)
  | [] => []
  | (l, o) :: r => if l = 0 then popD r else (l, o) :: r
theorem decF_len (S : List (Int × Bool)) : (decF S).length = S.length := by cases S <;> rfl
theorem popF_decF (S : List (Int × Bool)) : popF (decF S) = popD S := by cases S <;> rfl
theorem popF_next {l : Int} {o : Bool} {r : List (Int × Bool)} (h : l = 0) : popF (decF r) = popF ((l, o) :: r) := by
  rw [popF_decF]
  simp [popF, h]
theorem popF_done {l : Int} {o : Bool} {r : List (Int × Bool)} (h : l ≠ 0) : popF ((l, o) :: r) = (l, o) :: r := by simp [popF, h]
/-- the aggregates among the open terms -/
def insF (S : List (Int × Bool)) : Nat := S.countP (·.2)
theorem insF_le (S : List (Int × Bool)) : insF S ≤ S.length := List.countP_le_length
def levG : List (Int × Int) → List (Int × Bool) → Nat → Nat → Nat × Nat
  | [], _, d, n => (d, n)
  | t :: ts, S, d, n => levG ts (popF ((arF t.1, aggF t.1) :: S)) (max d (S.length + 1)) (max n (insF ((arF t.1, aggF t.1) :: S)))
/-- Depth and Nest of a list that is one expression -/
def levF (xs : List (Int × Int)) : Nat × Nat := levG xs [] 0 0

def Low (b : Int) (S : List (Int × Bool)) : Prop := ∀ x ∈ S, -b ≤ x.1 ∧ x.1 ≤ 3
def LowB (b : Int) : List (Int × Bool) → Prop
  | [] => True
  | x :: r => (-b - 1 ≤ x.1 ∧ x.1 ≤ 3) ∧ Low b r
theorem Low.push {b : Int} {S : List (Int × Bool)} (h : Low b S) (hb : 0 ≤ b) (op : Int) (o : Bool) : LowB b ((arF op, o) :: S) := by
  have := arF_le op
  exact ⟨⟨by dsimp only; omega, by dsimp only; omega⟩, h⟩
theorem LowB.next {b : Int} {x : Int × Bool} {r : List (Int × Bool)} (h : LowB b (x :: r)) : LowB b (decF r) := by
  cases r with
  | nil => trivial
  | cons y r =>
    have h1 := h.2 y (by simp)
    exact ⟨⟨by dsimp only; omega, by dsimp only; omega⟩, fun z hz => h.2 z (by simp [hz])⟩
theorem LowB.low {b : Int} {S : List (Int × Bool)} (h : LowB b S) : Low (b + 1) S := by
  cases S with
  | nil => exact fun x hx => by cases hx
  | cons y r =>
    intro x hx
    rcases List.mem_cons.1 hx with rfl | hx
    · have := h.1
      omega
    · have := h.2 x hx
      omega

/-! ### In memory: two rows of the call's own -/
def lefts (S : List (Int × Bool)) : List Value := (S.map fun x => Value.int .i64 x.1).reverse
def opens (S : List (Int × Bool)) : List Value := (S.map fun x => Value.bool x.2).reverse
theorem lefts_cons (x : Int × Bool) (S : List (Int × Bool)) : lefts (x :: S) = lefts S ++ [.int .i64 x.1] := by simp [lefts]
theorem opens_cons (x : Int × Bool) (S : List (Int × Bool)) : opens (x :: S) = opens S ++ [.bool x.2] := by simp [opens]
theorem lefts_len (S : List (Int × Bool)) : (lefts S).length = S.length := by simp [lefts]
theorem opens_len (S : List (Int × Bool)) : (opens S).length = S.length := by simp [opens]
structure Stk (B : Nat) (w : World) (v1 v2 : Value) (S : List (Int × Bool)) : Prop where
  o1 : w.ownsRow B 3 1 v1 S.length (lefts S)
  o2 : w.ownsRow B 4 1 v2 S.length (opens S)
  ap : v1.ownBlock = none ∨ v1.ownBlock ≠ v2.ownBlock
theorem Stk.nil (B : Nat) (w : World) : Stk B w (.slice none 0 0) (.slice none 0 0) [] := ⟨World.ownsRow_nil _ _ _ _, World.ownsRow_nil _ _ _ _, .inl rfl⟩
theorem row_shape {B : Nat} {w : World} {t : TypeId} {v : Value} {n : Nat} {xs : List Value} (h : w.ownsRow B t 1 v n xs) : ∃ a c, v = .slice a n c ∧ (0 < n → ∃ g, a = some ⟨g, 0, none⟩ ∧ B ≤ g ∧ g < w.heap.size) := by
  have hlt := World.ownsRow.lt h
  rcases h.2 with ⟨rfl, rfl⟩ | ⟨g, cap, cur, rfl, hg, _⟩
  · exact ⟨none, 0, rfl, fun h => absurd h (by omega)⟩
  · exact ⟨some ⟨g, 0, none⟩, cap, rfl, fun _ => ⟨g, rfl, hlt g rfl⟩⟩
theorem row_cut {B : Nat} {w : World} {t : TypeId} {g n cap : Nat} {x : Value} {xs : List Value} (h : w.ownsRow B t 1 (.slice (some ⟨g, 0, none⟩) (n + 1) cap) (n + 1) (xs ++ [x])) : w.ownsRow B t 1 (.slice (some ⟨g, 0, none⟩) n cap) n xs := by
  obtain ⟨hl, h⟩ := h
  have hxn : xs.length = n := by simpa using hl
  refine ⟨by simpa using hxn, ?_⟩
  rcases h with ⟨h, _⟩ | ⟨g', cap', cur, h, hg, hh, hn, hc, hs, ht⟩
  · cases h
  · injection h with e1 e2 e3
    injection e1 with e1
    injection e1 with e1
    subst e1 e3
    refine .inr ⟨g, cap, cur, rfl, hg, hh, by omega, hc, hs, ?_⟩
    have h2 := congrArg (List.take n) ht
    rw [List.take_take, Nat.mul_one, show min n (n + 1) = n by omega, List.take_append_of_le_length (by omega), List.take_of_length_le (l := xs) (by omega)] at h2
    rw [Nat.mul_one]
    exact h2
theorem Stk.far {B : Nat} {w w' : World} {v1 v2 : Value} {S : List (Int × Bool)} (h : Stk B w v1 v2 S) (hg : w.grownBy w' none) : Stk B w' v1 v2 S :=
  ⟨World.ownsRow.kept h.o1 hg (by cases v1.ownBlock <;> simp), World.ownsRow.kept h.o2 hg (by cases v2.ownBlock <;> simp), h.ap⟩
theorem Stk.drew {B : Nat} {w : World} {v1 v2 : Value} {S : List (Int × Bool)} (h : Stk B w v1 v2 S) (n : Nat) : Stk B (w.drewN n) v1 v2 S := ⟨h.o1, h.o2, h.ap⟩
theorem Stk.shape {B : Nat} {w : World} {v1 v2 : Value} {S : List (Int × Bool)} (h : Stk B w v1 v2 S) : ∃ a1 c1 a2 c2, v1 = .slice a1 S.length c1 ∧ v2 = .slice a2 S.length c2 := by
  obtain ⟨a1, c1, e1, _⟩ := row_shape h.o1
  obtain ⟨a2, c2, e2, _⟩ := row_shape h.o2
  exact ⟨a1, c1, a2, c2, e1, e2⟩
theorem Stk.block {B : Nat} {w : World} {a1 a2 : Option Addr} {n c1 c2 : Nat} {S : List (Int × Bool)} (h : Stk B w (.slice a1 n c1) (.slice a2 n c2) S) (h0 : 0 < S.length) : ∃ g1 g2, a1 = some ⟨g1, 0, none⟩ ∧ a2 = some ⟨g2, 0, none⟩ ∧ g1 ≠ g2 ∧ B ≤ g1 ∧ B ≤ g2 ∧ g1 < w.heap.size ∧ g2 < w.heap.size := by
  obtain ⟨b1, d1, e1, k1⟩ := row_shape h.o1
  obtain ⟨b2, d2, e2, k2⟩ := row_shape h.o2
  obtain ⟨g1, rfl, p1, q1⟩ := k1 h0
  obtain ⟨g2, rfl, p2, q2⟩ := k2 h0
  injection e1 with e1 _ _
  injection e2 with e2 _ _
  subst e1 e2
  refine ⟨g1, g2, rfl, rfl, fun e => ?_, p1, p2, q1, q2⟩
  rcases h.ap with h | h
  · simp [Value.ownBlock] at h
  · exact h (by rw [e]; rfl)
/-- the numbers of operands to come are stored in one of the rows, at the top -/
theorem Stk.top {B : Nat} {w : World} {g1 g2 n c1 c2 : Nat} {l : Int} {o : Bool} {r : List (Int × Bool)} (h : Stk B w (.slice (some ⟨g1, 0, none⟩) n c1) (.slice (some ⟨g2, 0, none⟩) n c2) ((l, o) :: r)) (hn : n = r.length + 1) :
    w.cell? ⟨g1, r.length, none⟩ = some (.int .i64 l) ∧ w.frozen? ⟨g1, r.length, none⟩ = false := by
  have h1 := h.o1
  subst hn
  have hc := World.ownsRow.cellAt h1 r.length (by simp)
  rw [lefts_cons, List.getElem?_append_right (by rw [lefts_len]; omega), lefts_len] at hc
  exact ⟨by rw [hc]; simp, World.ownsRow.frozenAt h1 _⟩
theorem Stk.openAt {B : Nat} {w : World} {g1 g2 n c1 c2 : Nat} {S : List (Int × Bool)} (h : Stk B w (.slice (some ⟨g1, 0, none⟩) n c1) (.slice (some ⟨g2, 0, none⟩) n c2) S) (hn : n = S.length) {k : Nat} (hk : k < S.length) :
    ∃ o, w.cell? ⟨g2, k, none⟩ = some (.bool o) ∧ (S.reverse.take (k + 1)).countP (·.2) = (S.reverse.take k).countP (·.2) + (if o then 1 else 0) := by
  have h1 := h.o2
  subst hn
  have hc := World.ownsRow.cellAt h1 k (by omega)
  have hkr : k < S.reverse.length := by simpa using hk
  refine ⟨(S.reverse[k]).2, ?_, ?_⟩
  · rw [hc, opens, ← List.map_reverse, List.getElem?_map, List.getElem?_eq_getElem hkr]
    rfl
  · rw [List.take_add_one, List.getElem?_eq_getElem hkr, List.countP_append]
    simp [List.countP_cons]
theorem Stk.pop {B : Nat} {w : World} {g1 g2 n c1 c2 : Nat} {x : Int × Bool} {r : List (Int × Bool)} (h : Stk B w (.slice (some ⟨g1, 0, none⟩) n c1) (.slice (some ⟨g2, 0, none⟩) n c2) (x :: r)) (hn : n = r.length + 1) :
    Stk B w (.slice (some ⟨g1, 0, none⟩) r.length c1) (.slice (some ⟨g2, 0, none⟩) r.length c2) r := by
  subst hn
  have h1 := h.o1
  have h2 := h.o2
  rw [lefts_cons] at h1
  rw [opens_cons] at h2
  refine ⟨row_cut h1, row_cut h2, ?_⟩
  have := h.ap
  simpa [Value.ownBlock] using this
theorem Stk.dec {B : Nat} {w : World} {g1 g2 n c1 c2 : Nat} {l : Int} {o : Bool} {r : List (Int × Bool)} (h : Stk B w (.slice (some ⟨g1, 0, none⟩) n c1) (.slice (some ⟨g2, 0, none⟩) n c2) ((l, o) :: r)) (hn : n = r.length + 1) :
    Stk B (w.setCell ⟨g1, r.length, none⟩ (.int .i64 (l - 1))) (.slice (some ⟨g1, 0, none⟩) n c1) (.slice (some ⟨g2, 0, none⟩) n c2) ((l - 1, o) :: r) := by
  have h1 := h.o1
  subst hn
  obtain ⟨k1, k2⟩ := World.ownsRow.stored h1 r.length (.int .i64 (l - 1))
  have hs : (lefts ((l, o) :: r)).set r.length (.int .i64 (l - 1)) = lefts ((l - 1, o) :: r) := by
    rw [lefts_cons, lefts_cons, List.set_append_right _ _ (by rw [lefts_len]; omega), lefts_len]
    simp
  rw [hs] at k1
  refine ⟨k1, World.ownsRow.kept h.o2 k2 ?_, h.ap⟩
  rcases h.ap with h | h
  · simp [Value.ownBlock] at h
  · exact .inr fun e => h (by rw [e]; rfl)
theorem row_cap {B : Nat} {w : World} {t : TypeId} {a : Option Addr} {n c : Nat} {xs : List Value} (h : w.ownsRow B t 1 (.slice a n c) n xs) : n ≤ c ∧ c ≤ maxLen := by
  rcases h.2 with ⟨e, rfl⟩ | ⟨g, cap, cur, e, _, _, h1, h2, _⟩
  · exact ⟨Nat.zero_le _, by injection e with _ _ e; omega⟩
  · injection e with _ _ e
    omega
theorem infoInt : (Try.prog.info? 3).map (fun i => (i.zero, i.size, i.bytes)) = some (some (.int .i64 0), 1, 8) := by kernel_rfl
theorem infoBool : (Try.prog.info? 4).map (fun i => (i.zero, i.size, i.bytes)) = some (some (.bool false), 1, 1) := by kernel_rfl
/-- a term is on the one row, not yet on the other -/
structure Mid (B : Nat) (w : World) (v1 v2 : Value) (l : Int) (S : List (Int × Bool)) : Prop where
  o1 : w.ownsRow B 3 1 v1 (S.length + 1) (lefts S ++ [.int .i64 l])
  o2 : w.ownsRow B 4 1 v2 S.length (opens S)
  ap : v1.ownBlock = none ∨ v1.ownBlock ≠ v2.ownBlock
theorem Mid.far {B : Nat} {w w' : World} {v1 v2 : Value} {l : Int} {S : List (Int × Bool)} (h : Mid B w v1 v2 l S) (hg : w.grownBy w' none) : Mid B w' v1 v2 l S :=
  ⟨World.ownsRow.kept h.o1 hg (by cases v1.ownBlock <;> simp), World.ownsRow.kept h.o2 hg (by cases v2.ownBlock <;> simp), h.ap⟩
theorem Stk.app1 {B : Nat} {w w' : World} {v1 v2 : Value} {l : Int} {S : List (Int × Bool)} {g cap : Nat} (h : Stk B w v1 v2 S) (ho : w'.ownsRow B 3 1 (.slice (some ⟨g, 0, none⟩) (S.length + 1) cap) (S.length + 1) (lefts S ++ [.int .i64 l]))
    (hg : w.grownBy w' v1.ownBlock) (hat : v1.ownBlock = some g ∨ g = w.heap.size) : Mid B w' (.slice (some ⟨g, 0, none⟩) (S.length + 1) cap) v2 l S := by
  refine ⟨ho, World.ownsRow.kept h.o2 hg ?_, ?_⟩
  · rcases h.ap with h | h
    · rw [h]; cases v2.ownBlock <;> simp
    · exact .inr (Ne.symm h)
  · refine .inr fun e => ?_
    have e2 : v2.ownBlock = some g := by rw [← e]; rfl
    rcases hat with h1 | h1
    · rcases h.ap with h | h
      · rw [h1] at h; cases h
      · exact h (by rw [h1, e2])
    · have := (World.ownsRow.lt h.o2 g e2).2
      omega
theorem Mid.app2 {B : Nat} {w w' : World} {v1 v2 : Value} {l : Int} {o : Bool} {S : List (Int × Bool)} {g cap : Nat} (h : Mid B w v1 v2 l S) (ho : w'.ownsRow B 4 1 (.slice (some ⟨g, 0, none⟩) (S.length + 1) cap) (S.length + 1) (opens S ++ [.bool o]))
    (hg : w.grownBy w' v2.ownBlock) (hat : v2.ownBlock = some g ∨ g = w.heap.size) : Stk B w' v1 (.slice (some ⟨g, 0, none⟩) (S.length + 1) cap) ((l, o) :: S) := by
  refine ⟨?_, ?_, ?_⟩
  · rw [lefts_cons]
    refine World.ownsRow.kept h.o1 hg ?_
    rcases h.ap with h | h
    · exact .inl h
    · exact .inr h
  · rw [opens_cons]
    exact ho
  · cases h1 : v1.ownBlock with
    | none => exact .inl rfl
    | some k =>
      refine .inr fun e => ?_
      have e2 : k = g := by injection e
      subst e2
      rcases hat with h2 | h2
      · rcases h.ap with h | h
        · rw [h1] at h; cases h
        · exact h (by rw [h1, h2])
      · have := (World.ownsRow.lt h.o1 k h1).2
        omega
end Go.Proofs.Ytckofngclgkajaa
namespace Go.Proofs.Ytckofngclgkajaa
open Go

section
variable {P : Program} {ops : Array Oper} {Q : Exit → Act → World → Prop} {md : Region.Mode} {S : World → Prop} {T : List Nat}

/-- none of T has come up -/
def Calm (T : List Nat) (l : Array Bool) : Prop := ∀ t ∈ T, l.getD t true = false
/-- whatever order is picked from here on; S behind each operation until one of T comes up -/
def AnyK (P : Program) (md : Region.Mode) (ops : Array Oper) (Q : Exit → Act → World → Prop) (S : World → Prop) (T : List Nat) : Nat → Array Bool → Act → World → Prop
  | 0, l, a, w => Region.ready md ops l = [] ∧ Q .normal a w
  | n + 1, l, a, w => (Region.ready md ops l = [] → Q .normal a w) ∧
    ∀ i ∈ Region.ready md ops l, wpOp P ops Q i (fun a' w' => (Calm T (l.setIfInBounds i true) → S w') ∧ AnyK P md ops Q S T n (l.setIfInBounds i true) a' w') a w
theorem AnyK.any : ∀ (n : Nat) (l : Array Bool) (a : Act) (w : World), AnyK P md ops Q S T n l a w → wpAny P md ops Q n l a w
  | 0, _, _, _, h => h
  | n + 1, _, _, _, h => ⟨h.1, fun i hi => wpOp_mono (fun a' w' k => AnyK.any n _ a' w' k.2) (h.2 i hi)⟩

theorem calm_set {l : Array Bool} {i : Nat} (hi : i ∉ T) : Calm T (l.setIfInBounds i true) ↔ Calm T l := by
  constructor
  all_goals
    intro h t ht
    have := h t ht
    rw [getD_set_ne true (fun e => hi (by rw [e]; exact ht))] at *
    exact this
theorem not_ready {l : Array Bool} {i t : Nat} (hi : i ∈ Region.ready md ops l) (ht : ∃ o, ops[t]? = some o ∧ ∃ e ∈ o.after, Region.binds md e = true ∧ e.on = i) : t ∉ Region.ready md ops l := by
  intro h
  obtain ⟨_, o, ho, hall⟩ := mem_ready.1 h
  obtain ⟨o', ho', e, he, hb, heq⟩ := ht
  rw [ho] at ho'
  obtain rfl : o = o' := Option.some.inj ho'
  have h1 := hall e he hb
  rw [heq] at h1
  have h0 := (mem_ready.1 hi).1
  rcases Nat.lt_or_ge i l.size with h' | h'
  · simp [h'] at h0 h1; rw [h0] at h1; cases h1
  · simp [Array.getElem?_eq_none h'] at h1
/-- the way of both laws: F is what makes the operation yield its value, at a state and a world -/
theorem first_free {i : Nat} {l : Array Bool} (hi : i ∈ Region.ready md ops l) {j : Nat} {oj : Oper} (hoj : ops[j]? = some oj) (hj : j ∈ Region.ready md ops l) : ∀ e ∈ oj.after, Region.binds md e = true → e.on ≠ i := by
  intro e he hb heq
  exact not_ready hi ⟨oj, hoj, e, he, hb, heq⟩ hj
theorem free_set {i j : Nat} {oi : Oper} {l : Array Bool} (hfree : ∀ k ok, ops[k]? = some ok → k ≠ i → l.getD k true = false → (∀ e ∈ ok.after, Region.binds md e = true → e.on ≠ i) → oi.apart ops ok = true) (hjun : l.getD j true = false) :
    ∀ k ok, ops[k]? = some ok → k ≠ i → (l.setIfInBounds j true).getD k true = false → (∀ e ∈ ok.after, Region.binds md e = true → e.on ≠ i) → oi.apart ops ok = true := fun k ok hk hki hun hno => by
  refine hfree k ok hk hki ?_ hno
  by_cases hjk : j = k
  · subst hjk; exact hjun
  · rwa [getD_set_ne true hjk] at hun

/-- an operation that yields its value in whatever world -/
theorem AnyK.pure {i : Nat} {oi : Oper} {v : Value} (hi : ops[i]? = some oi) (hs : Region.noSelect ops = true) (hQ : ∀ c a w, Q (.panic c) (a.put oi.dst v) w → Q (.panic c) a w) (hiT : i ∉ T) :
    ∀ (n : Nat) (l : Array Bool) (a : Act) (w : World), (∀ k ok, ops[k]? = some ok → k ≠ i → l.getD k true = false → (∀ e ∈ ok.after, Region.binds md e = true → e.on ≠ i) → oi.apart ops ok = true) →
      i ∈ Region.ready md ops l → Yields P ops oi v a → (Calm T l → S w) →
      AnyK P md ops Q S T n (l.setIfInBounds i true) (a.put oi.dst v) w → AnyK P md ops Q S T (n + 1) l a w := by
  have hsel := Region.noSelect_spec hs
  intro n
  induction n with
  | zero =>
    intro l a w _ hr hy hc H
    refine ⟨fun h => (by rw [h] at hr; cases hr), fun j hj => ?_⟩
    by_cases hji : j = i
    · subst hji; exact hy.wpOp hi ⟨fun h => hc ((calm_set hiT).1 h), H⟩
    · have := ready_mono hj hji
      rw [H.1] at this
      cases this
  | succ n ih =>
    intro l a w hfree hr hy hc H
    refine ⟨fun h => (by rw [h] at hr; cases hr), fun j hj => ?_⟩
    by_cases hji : j = i
    · subst hji; exact hy.wpOp hi ⟨fun h => hc ((calm_set hiT).1 h), H⟩
    · obtain ⟨hjun, oj, hoj, _⟩ := mem_ready.1 hj
      have h2 := wpOp_put hoj (hfree j oj hoj hji hjun (first_free hr hoj hj)) (fun cs b => hsel i oi cs b hi) (fun cs b => hsel j oj cs b hoj) hQ hy (H.2 j (ready_mono hj hji))
      refine wpOp_mono (fun a' w' h3 => ?_) h2
      have hS : Calm T (l.setIfInBounds j true) → S w' := fun h => h3.2.1 (by rw [Array.setIfInBounds_comm _ _ (Ne.symm hji), calm_set hiT]; exact h)
      refine ⟨hS, ih (l.setIfInBounds j true) a' w' (free_set hfree hjun) (ready_mono hr (Ne.symm hji)) h3.1 hS ?_⟩
      rw [Array.setIfInBounds_comm _ _ hji]
      exact h3.2.2
/-- an operation that yields its value in every world that meets S, for which all of T wait -/
theorem AnyK.load {i : Nat} {oi : Oper} {v : Value} (hi : ops[i]? = some oi) (hs : Region.noSelect ops = true) (hQ : ∀ c a w, Q (.panic c) (a.put oi.dst v) w → Q (.panic c) a w) (hiT : i ∉ T)
    (hT : ∀ t ∈ T, ∃ o, ops[t]? = some o ∧ ∃ e ∈ o.after, Region.binds md e = true ∧ e.on = i) :
    ∀ (n : Nat) (l : Array Bool) (a : Act) (w : World), (∀ k ok, ops[k]? = some ok → k ≠ i → l.getD k true = false → (∀ e ∈ ok.after, Region.binds md e = true → e.on ≠ i) → oi.apart ops ok = true) →
      i ∈ Region.ready md ops l → YieldsIf P ops S oi v a → Calm T l → S w →
      AnyK P md ops Q S T n (l.setIfInBounds i true) (a.put oi.dst v) w → AnyK P md ops Q S T (n + 1) l a w := by
  have hsel := Region.noSelect_spec hs
  intro n
  induction n with
  | zero =>
    intro l a w _ hr hy _ hS H
    refine ⟨fun h => (by rw [h] at hr; cases hr), fun j hj => ?_⟩
    by_cases hji : j = i
    · subst hji; exact hy.wpOp hi hS ⟨fun _ => hS, H⟩
    · have := ready_mono hj hji
      rw [H.1] at this
      cases this
  | succ n ih =>
    intro l a w hfree hr hy hc hS H
    refine ⟨fun h => (by rw [h] at hr; cases hr), fun j hj => ?_⟩
    by_cases hji : j = i
    · subst hji; exact hy.wpOp hi hS ⟨fun _ => hS, H⟩
    · obtain ⟨hjun, oj, hoj, _⟩ := mem_ready.1 hj
      have hjT : j ∉ T := fun h => not_ready hr (hT j h) hj
      have h2 := wpOp_putIf hoj (hfree j oj hoj hji hjun (first_free hr hoj hj)) (fun cs b => hsel i oi cs b hi) (fun cs b => hsel j oj cs b hoj) hQ hy (H.2 j (ready_mono hj hji))
      refine wpOp_mono (fun a' w' h3 => ?_) h2
      have hcj : Calm T (l.setIfInBounds j true) := (calm_set hjT).2 hc
      have hS' : S w' := h3.2.1 ((calm_set hjT).2 ((calm_set hiT).2 hc))
      refine ⟨fun _ => hS', ih (l.setIfInBounds j true) a' w' (free_set hfree hjun) (ready_mono hr (Ne.symm hji)) h3.1 hcj hS' ?_⟩
      rw [Array.setIfInBounds_comm _ _ hji]
      exact h3.2.2

/-! ### The moves of a walk -/
/-- no operation of T has come up, as a Bool -/
def calmB (T : List Nat) (l : Array Bool) : Bool := T.all fun t => !l.getD t true
theorem calm_of {l : Array Bool} (h : calmB T l = true) : Calm T l := fun t ht => by
  have := List.all_eq_true.1 h t ht
  simpa using this
theorem calm_not {l : Array Bool} (h : calmB T l = false) : ¬ Calm T l := fun k => by
  have : calmB T l = true := List.all_eq_true.2 fun t ht => by rw [k t ht]; rfl
  rw [this] at h; cases h
def waitsB (md : Region.Mode) (ops : Array Oper) (T : List Nat) (i : Nat) : Bool := T.all fun t => match ops[t]? with
  | some o => o.after.any fun e => Region.binds md e && e.on == i
  | none => false
theorem waits_of {i : Nat} (h : waitsB md ops T i = true) : ∀ t ∈ T, ∃ o, ops[t]? = some o ∧ ∃ e ∈ o.after, Region.binds md e = true ∧ e.on = i := fun t ht => by
  have h1 := List.all_eq_true.1 h t ht
  cases ho : ops[t]? with
  | none => rw [ho] at h1; cases h1
  | some o =>
    rw [ho] at h1
    obtain ⟨e, he, hb⟩ := Array.any_eq_true'.1 h1
    simp only [Bool.and_eq_true, beq_iff_eq] at hb
    exact ⟨o, rfl, e, he, hb.1, hb.2⟩
theorem keep_start {id : Nat} {a : Act} {w : World} (S : World → Prop) (T : List Nat) (hm : P.follows .mixedOrders = true)
    (h : AnyK P .any ops Q S T ops.size (Array.replicate ops.size false) a w.drew) : (Code.region id ops true).wp P Q a w :=
  wp_region_any hm (AnyK.any _ _ _ _ h)
theorem keep_pure (i : Nat) {oi : Oper} {v : Value} {n : Nat} {l : Array Bool} {a : Act} {w : World} (hi : ops[i]? = some oi) (hs : Region.noSelect ops = true) (hf : Region.free md ops l i = true) (hr : (Region.ready md ops l).contains i = true) (hiT : T.contains i = false)
    (hQ : ∀ c a w, Q (.panic c) (a.put oi.dst v) w → Q (.panic c) a w) (hy : Yields P ops oi v a) (hc : calmB T l = false ∨ S w)
    (h : AnyK P md ops Q S T n (l.setIfInBounds i true) (a.put oi.dst v) w) : AnyK P md ops Q S T (n + 1) l a w :=
  AnyK.pure hi hs hQ (by simpa using hiT) n l a w (Region.free_spec hi hf) (by simpa using hr) hy (fun k => hc.elim (fun e => absurd k (calm_not e)) id) h
theorem keep_load (i : Nat) {oi : Oper} {v : Value} {n : Nat} {l : Array Bool} {a : Act} {w : World} (hi : ops[i]? = some oi) (hs : Region.noSelect ops = true) (hf : Region.free md ops l i = true) (hr : (Region.ready md ops l).contains i = true) (hiT : T.contains i = false) (hT : waitsB md ops T i = true) (hc : calmB T l = true)
    (hQ : ∀ c a w, Q (.panic c) (a.put oi.dst v) w → Q (.panic c) a w) (hy : YieldsIf P ops S oi v a) (hS : S w)
    (h : AnyK P md ops Q S T n (l.setIfInBounds i true) (a.put oi.dst v) w) : AnyK P md ops Q S T (n + 1) l a w :=
  AnyK.load hi hs hQ (by simpa using hiT) (waits_of hT) n l a w (Region.free_spec hi hf) (by simpa using hr) hy (calm_of hc) hS h
theorem keep_done {l : Array Bool} {a : Act} {w : World} {n : Nat} (hr : Region.ready md ops l = []) (h : Q .normal a w) : AnyK P md ops Q S T n l a w := by
  cases n with
  | zero => exact ⟨hr, h⟩
  | succ n => exact ⟨fun _ => h, by rw [hr]; simp⟩
theorem keep_op {i : Nat} {o : Oper} {n : Nat} {l : Array Bool} {a : Act} {w : World} (ho : ops[i]? = some o)
    (h : ∀ K : Act → World → Prop, (∀ a' w', (Calm T (l.setIfInBounds i true) → S w') → AnyK P md ops Q S T n (l.setIfInBounds i true) a' w' → K a' w') → if Region.wanted o (yielded ops a.tmps) = true then Oper.wp P o a w K Q else K (a.put o.dst undef) w) :
    wpOp P ops Q i (fun a' w' => (Calm T (l.setIfInBounds i true) → S w') ∧ AnyK P md ops Q S T n (l.setIfInBounds i true) a' w') a w := by
  have h1 := h (fun a' w' => (Calm T (l.setIfInBounds i true) → S w') ∧ AnyK P md ops Q S T n (l.setIfInBounds i true) a' w') (fun a' w' hS hA => ⟨hS, hA⟩)
  unfold wpOp
  simp only [ho]
  split
  · rename_i hw
    rw [if_pos hw] at h1
    exact .inl h1
  · rename_i hw
    rw [if_neg hw] at h1
    exact h1
/-- only number i may come up -/
theorem keep_one (i : Nat) {o : Oper} {n : Nat} {l : Array Bool} {a : Act} {w : World} (hr : Region.ready md ops l = [i]) (ho : ops[i]? = some o)
    (h : ∀ K : Act → World → Prop, (∀ a' w', (Calm T (l.setIfInBounds i true) → S w') → AnyK P md ops Q S T n (l.setIfInBounds i true) a' w' → K a' w') → if Region.wanted o (yielded ops a.tmps) = true then Oper.wp P o a w K Q else K (a.put o.dst undef) w) : AnyK P md ops Q S T (n + 1) l a w := by
  refine ⟨fun e => ?_, fun j hj => ?_⟩
  · rw [hr] at e; cases e
  · rw [hr] at hj
    obtain rfl : j = i := by simpa using hj
    exact keep_op ho h
/-- number i or number j may come up -/
theorem keep_two (i j : Nat) {o o' : Oper} {n : Nat} {l : Array Bool} {a : Act} {w : World} (hr : Region.ready md ops l = [i, j]) (ho : ops[i]? = some o) (ho' : ops[j]? = some o')
    (h : ∀ K : Act → World → Prop, (∀ a' w', (Calm T (l.setIfInBounds i true) → S w') → AnyK P md ops Q S T n (l.setIfInBounds i true) a' w' → K a' w') → if Region.wanted o (yielded ops a.tmps) = true then Oper.wp P o a w K Q else K (a.put o.dst undef) w)
    (h' : ∀ K : Act → World → Prop, (∀ a' w', (Calm T (l.setIfInBounds j true) → S w') → AnyK P md ops Q S T n (l.setIfInBounds j true) a' w' → K a' w') → if Region.wanted o' (yielded ops a.tmps) = true then Oper.wp P o' a w K Q else K (a.put o'.dst undef) w) : AnyK P md ops Q S T (n + 1) l a w := by
  refine ⟨fun e => ?_, fun k hk => ?_⟩
  · rw [hr] at e; cases e
  · rw [hr] at hk
    have : k = i ∨ k = j := by simpa using hk
    rcases this with rfl | rfl
    · exact keep_op ho h
    · exact keep_op ho' h'
end

/-! ### The moves of a walk -/
end Go.Proofs.Ytckofngclgkajaa
namespace Go.Proofs.Ytckofngclgkajaa
open Go.RowKit Go.Deep

def lenV : Value → Nat
  | .slice _ l _ => l
  | _ => 0
set_option linter.unusedVariables false
set_option linter.unusedSimpArgs false
set_option maxRecDepth 100000 in
set_option maxHeartbeats 2000000 in
theorem levelsR_any (a : Option Addr) (c : Nat) (xs : List (Int × Int)) (w : World) (hX : LinksAt w a xs) (hn : xs.length ≤ 1000) :
    Calls Try.prog 70 #[.slice a xs.length c] w fun e w' => e = .returned (.tuple #[.int .i64 (levF xs).1, .int .i64 (levF xs).2]) ∧ Below w.heap.size w w' := by
  have HX := Lib.hid hX
  obtain ⟨m, hm⟩ : ∃ m, m = xs.length := ⟨_, rfl⟩
  have HM := Lib.hid hm
  rw [← hm] at hn ⊢
  clear hm hX
  obtain ⟨i0, hi, hz0, hz1, hz2⟩ := info_parts infoInt
  obtain ⟨j0, hj, hy0, hy1, hy2⟩ := info_parts infoBool
  go_enter Try.func70, Try.ntmps70
  go_wp2
  go_loopw [4, 5, 6, 7, 8] (fun td tn tl to ti wr => ∃ (i d n : Nat) (S : List (Int × Bool)) (a1 : Option Addr) (c1 : Nat) (a2 : Option Addr) (c2 : Nat), td = .int .i64 d ∧ tn = .int .i64 n ∧ tl = .slice a1 S.length c1 ∧ to = .slice a2 S.length c2 ∧ ti = .int .i64 i ∧ i ≤ m ∧ S.length ≤ i ∧ d ≤ i ∧ n ≤ i ∧ Low i S ∧ levG (xs.drop i) S d n = levF xs ∧ Stk w.heap.size wr (.slice a1 S.length c1) (.slice a2 S.length c2) S ∧ Below w.heap.size w wr) (fun _ _ _ _ t _ => m - (intOf t).toNat)
  case atStart => exact ⟨0, 0, 0, [], none, 0, none, 0, rfl, rfl, rfl, rfl, rfl, Nat.zero_le _, Nat.le_refl _, Nat.le_refl _, Nat.le_refl _, (fun x hx => by cases hx), rfl, Stk.nil _ _, by first | exact Below.refl _ _ | exact belDraws (Below.refl _ _) _⟩
  case round =>
    obtain ⟨i, d, n, S, a1, c1, a2, c2, rfl, rfl, rfl, rfl, rfl, him, hSi, hdi, hni, hlow, hlev, hstk, hbr⟩ := hrel
    have HLow := Lib.hid hlow
    have HLev := Lib.hid hlev
    clear hlow hlev
    by_cases hlt : i < m
    · obtain ⟨b, o, rfl, hb, hc⟩ := HX.out.row (by rw [← HM.out]; omega)
      have hxl : i < xs.length := by rw [← HM.out]; exact hlt
      have hce := (hc i hxl).1
      have HCE : Hid (∀ W, Below w.heap.size w W → W.cell? ⟨b, o + i * 2, none⟩ = some (.int .i64 (toA xs i))) := Lib.hid (fun W h => (h.cell (p := ⟨b, o + i * 2, none⟩) hb).trans hce)
      have HNext : Hid (levG (xs.drop (i + 1)) (popF ((arF (toA xs i), aggF (toA xs i)) :: S)) (max d (S.length + 1)) (max n (insF ((arF (toA xs i), aggF (toA xs i)) :: S))) = levF xs) := Lib.hid (by rw [← HLev.out, drop_tm hxl]; rfl)
      have HLB : Hid (LowB i ((arF (toA xs i), aggF (toA xs i)) :: S)) := Lib.hid (HLow.out.push (by omega) _ _)
      clear hc hce HLev HLow
      generalize toA xs i = op at HCE HNext HLB
      obtain ⟨k, hk⟩ : ∃ k, arF op = k := ⟨_, rfl⟩
      obtain ⟨g, hg⟩ : ∃ g, aggF op = g := ⟨_, rfl⟩
      have HK := Lib.hid hk
      have HG := Lib.hid hg
      rw [hk, hg] at HNext HLB
      clear hk hg
      have hi0 : (0 : Int) ≤ i := by omega
      have hi1 : (i : Int) < m := by omega
      generalize hN : S.length = N at hSi hstk HNext
      have HN := Lib.hid hN
      clear hN
      go_wp2
      obtain ⟨W0, hW0⟩ : ∃ x, x = wr.drew := ⟨_, rfl⟩
      have hB0 : Below w.heap.size w W0 := by rw [hW0]; exact belDraws hbr 1
      have hS0 : Stk w.heap.size W0 (.slice a1 N c1) (.slice a2 N c2) S := by rw [hW0]; exact hstk.drew 1
      have HW0 := Lib.hid hW0
      clear hbr hstk hW0
      refine keep_start (fun w' => w'.cell? ⟨b, o + i * 2, none⟩ = some (.int .i64 op)) [] (by kernel_rfl) ?_
      (refine keep_pure 0 (v := ?_) rfl (by kernel_rfl) (by kernel_rfl) (by kernel_rfl) (by kernel_rfl) (fun _ _ _ h => h) (Or.inl ⟨by rfl, ?_⟩) (.inr (by rw [← HW0.out]; exact HCE.out _ hB0)) ?_; rotate_left 1; focus (intro _; go_simp; (try go_ints); try (with_reducible rfl)); (try simp only [Act.put, List.setIfInBounds_toArray, List.set_cons_zero, List.set_cons_succ]))
      (refine keep_pure 1 (v := ?_) rfl (by kernel_rfl) (by kernel_rfl) (by kernel_rfl) (by kernel_rfl) (fun _ _ _ h => h) (Or.inl ⟨by rfl, ?_⟩) (.inr (by rw [← HW0.out]; exact HCE.out _ hB0)) ?_; rotate_left 1; focus (intro _; go_simp; (try go_ints); try (with_reducible rfl)); (try simp only [Act.put, List.setIfInBounds_toArray, List.set_cons_zero, List.set_cons_succ]))
      (refine keep_pure 2 (v := ?_) rfl (by kernel_rfl) (by kernel_rfl) (by kernel_rfl) (by kernel_rfl) (fun _ _ _ h => h) (Or.inl ⟨by rfl, ?_⟩) (.inr (by rw [← HW0.out]; exact HCE.out _ hB0)) ?_; rotate_left 1; focus (intro _; go_simp; (try go_ints); try (with_reducible rfl)); (try simp only [Act.put, List.setIfInBounds_toArray, List.set_cons_zero, List.set_cons_succ]))
      (refine keep_pure 3 (v := ?_) rfl (by kernel_rfl) (by kernel_rfl) (by kernel_rfl) (by kernel_rfl) (fun _ _ _ h => h) (Or.inl ⟨by rfl, ?_⟩) (.inr (by rw [← HW0.out]; exact HCE.out _ hB0)) ?_; rotate_left 1; focus (intro _; go_simp; (try go_ints); try (with_reducible rfl)); (try simp only [Act.put, List.setIfInBounds_toArray, List.set_cons_zero, List.set_cons_succ]))
      (refine keep_pure 4 (v := ?_) rfl (by kernel_rfl) (by kernel_rfl) (by kernel_rfl) (by kernel_rfl) (fun _ _ _ h => h) (Or.inl ⟨by rfl, ?_⟩) (.inr (by rw [← HW0.out]; exact HCE.out _ hB0)) ?_; rotate_left 1; focus (intro _; go_simp; (try go_ints); try (with_reducible rfl)); (try simp only [Act.put, List.setIfInBounds_toArray, List.set_cons_zero, List.set_cons_succ]))
      (refine keep_pure 9 (v := ?_) rfl (by kernel_rfl) (by kernel_rfl) (by kernel_rfl) (by kernel_rfl) (fun _ _ _ h => h) (Or.inl ⟨by rfl, ?_⟩) (.inr (by rw [← HW0.out]; exact HCE.out _ hB0)) ?_; rotate_left 1; focus (intro _; go_simp; (try go_ints); try (with_reducible rfl)); (try simp only [Act.put, List.setIfInBounds_toArray, List.set_cons_zero, List.set_cons_succ]))
      (refine keep_pure 10 (v := ?_) rfl (by kernel_rfl) (by kernel_rfl) (by kernel_rfl) (by kernel_rfl) (fun _ _ _ h => h) (Or.inl ⟨by rfl, ?_⟩) (.inr (by rw [← HW0.out]; exact HCE.out _ hB0)) ?_; rotate_left 1; focus (intro _; go_simp; (try go_ints); try (with_reducible rfl)); (try simp only [Act.put, List.setIfInBounds_toArray, List.set_cons_zero, List.set_cons_succ]))
      (refine keep_pure 11 (v := ?_) rfl (by kernel_rfl) (by kernel_rfl) (by kernel_rfl) (by kernel_rfl) (fun _ _ _ h => h) (Or.inl ⟨by rfl, ?_⟩) (.inr (by rw [← HW0.out]; exact HCE.out _ hB0)) ?_; rotate_left 1; focus (intro _; go_simp; (try go_ints); try (with_reducible rfl)); (try simp only [Act.put, List.setIfInBounds_toArray, List.set_cons_zero, List.set_cons_succ]))
      (refine keep_pure 12 (v := ?_) rfl (by kernel_rfl) (by kernel_rfl) (by kernel_rfl) (by kernel_rfl) (fun _ _ _ h => h) (Or.inl ⟨by rfl, ?_⟩) (.inr (by rw [← HW0.out]; exact HCE.out _ hB0)) ?_; rotate_left 1; focus (intro _; go_simp; (try go_ints); try (with_reducible rfl)); (try simp only [Act.put, List.setIfInBounds_toArray, List.set_cons_zero, List.set_cons_succ]))
      (refine keep_pure 13 (v := ?_) rfl (by kernel_rfl) (by kernel_rfl) (by kernel_rfl) (by kernel_rfl) (fun _ _ _ h => h) (Or.inl ⟨by rfl, ?_⟩) (.inr (by rw [← HW0.out]; exact HCE.out _ hB0)) ?_; rotate_left 1; focus (intro _; go_simp; (try go_ints); try (with_reducible rfl)); (try simp only [Act.put, List.setIfInBounds_toArray, List.set_cons_zero, List.set_cons_succ]))
      (refine keep_load 5 (v := ?_) rfl (by kernel_rfl) (by kernel_rfl) (by kernel_rfl) (by kernel_rfl) (by kernel_rfl) (by kernel_rfl) (fun _ _ _ h => h) (Or.inl ⟨by rfl, ?_⟩) (by rw [← HW0.out]; exact HCE.out _ hB0) ?_; rotate_left 1; focus (intro _ hSw; (first | (obtain ⟨_, _, _, _, _⟩ := hSw) | (obtain ⟨_, _, _, _⟩ := hSw) | (obtain ⟨_, _, _⟩ := hSw) | (obtain ⟨_, _⟩ := hSw) | skip); go_simp; (try go_ints); try (with_reducible rfl)); (try simp only [Act.put, List.setIfInBounds_toArray, List.set_cons_zero, List.set_cons_succ]))
      (refine keep_load 14 (v := ?_) rfl (by kernel_rfl) (by kernel_rfl) (by kernel_rfl) (by kernel_rfl) (by kernel_rfl) (by kernel_rfl) (fun _ _ _ h => h) (Or.inl ⟨by rfl, ?_⟩) (by rw [← HW0.out]; exact HCE.out _ hB0) ?_; rotate_left 1; focus (intro _ hSw; (first | (obtain ⟨_, _, _, _, _⟩ := hSw) | (obtain ⟨_, _, _, _⟩ := hSw) | (obtain ⟨_, _, _⟩ := hSw) | (obtain ⟨_, _⟩ := hSw) | skip); go_simp; (try go_ints); try (with_reducible rfl)); (try simp only [Act.put, List.setIfInBounds_toArray, List.set_cons_zero, List.set_cons_succ]))
      (refine keep_one 6 (by kernel_rfl) rfl ?_)
      intro K hK
      go_simp
      refine (arityR_any op _).mono ?_
      rintro e w1 ⟨rfl, rfl⟩
      rw [HK.out, ← HW0.out]
      refine hK _ _ (fun h => (by exact HCE.out _ hB0)) ?_
      clear hK K
      (try simp only [Act.put, List.setIfInBounds_toArray, List.set_cons_zero, List.set_cons_succ])
      (refine keep_one 7 (by kernel_rfl) rfl ?_)
      intro K hK
      go_simp
      obtain ⟨W1, hW1⟩ : ∃ x, x = W0.alloc (.cells #[.int .i64 k] 3) := ⟨_, rfl⟩
      have hB1 : Below w.heap.size w W1 := by rw [hW1]; exact hB0.alloc hB0.size _
      have hS1 : Stk w.heap.size W1 (.slice a1 N c1) (.slice a2 N c2) S := by rw [hW1]; exact hS0.far (World.grownBy_alloc _ _ _)
      have hn1 : W1.cell? ⟨W0.heap.size, 0, none⟩ = some (.int .i64 k) := by rw [hW1, World.cell?_alloc_new]; rfl
      rw [← hW1]
      clear hW1
      refine hK _ _ (fun h => (by exact HCE.out _ hB1)) ?_
      clear hK K
      (try simp only [Act.put, List.setIfInBounds_toArray, List.set_cons_zero, List.set_cons_succ])
      (refine keep_one 8 (by kernel_rfl) rfl ?_)
      intro K hK
      refine step_append_lies _ rfl (.tmp 17) (.tmp 24) 23 rfl w.heap.size 3 i0 (.int .i64 0) 1 8 Try.underlying23 hi hz0 hz1 hz2 rfl (by decide) (.slice a1 N c1) N (lefts S) rfl (by have h := hS1.o1; rw [HN.out] at h; exact h) ⟨W0.heap.size, 0, none⟩ 1 1 [.int .i64 k] rfl rfl (fun j u hj => by match j, hj with | 0, hj => simp at hj; subst hj; rw [add_none]; exact hn1 | j + 1, hj => simp at hj) (by simp [Value.oneCell']) (by decide) (by unfold maxLen; omega) (by omega) hB1.size _ rfl ?_
      intro g1 d1 W2 ho2 hg2 hat2 hlt2
      have hM2 := hS1.app1 (l := k) (g := g1) (cap := d1) (by rw [HN.out]; exact ho2) hg2 hat2
      have hB2 : Below w.heap.size w W2 := hB1.grown hg2 hB1.size (fun q hq => (World.ownsRow.lt hS1.o1 q hq).1)
      clear ho2 hg2 hat2 hlt2 hn1
      refine hK _ _ (fun h => (by exact HCE.out _ hB2)) ?_
      clear hK K
      (try simp only [Act.put, List.setIfInBounds_toArray, List.set_cons_zero, List.set_cons_succ])
      (refine keep_one 15 (by kernel_rfl) rfl ?_)
      intro K hK
      go_simp
      refine (aggR_any op _).mono ?_
      rintro e w1 ⟨rfl, hw1⟩
      rw [HG.out, hw1]
      clear hw1
      refine hK _ _ (fun h => (by exact HCE.out _ hB2)) ?_
      clear hK K
      (try simp only [Act.put, List.setIfInBounds_toArray, List.set_cons_zero, List.set_cons_succ])
      (refine keep_one 16 (by kernel_rfl) rfl ?_)
      intro K hK
      go_simp
      obtain ⟨W3, hW3⟩ : ∃ x, x = W2.alloc (.cells #[.bool g] 4) := ⟨_, rfl⟩
      have hB3 : Below w.heap.size w W3 := by rw [hW3]; exact hB2.alloc hB2.size _
      have hM3 := hM2.far (w' := W3) (by rw [hW3]; exact World.grownBy_alloc _ _ _)
      have hn3 : W3.cell? ⟨W2.heap.size, 0, none⟩ = some (.bool g) := by rw [hW3, World.cell?_alloc_new]; rfl
      rw [← hW3]
      clear hW3
      refine hK _ _ (fun h => (by exact HCE.out _ hB3)) ?_
      clear hK K
      (try simp only [Act.put, List.setIfInBounds_toArray, List.set_cons_zero, List.set_cons_succ])
      (refine keep_one 17 (by kernel_rfl) rfl ?_)
      intro K hK
      refine step_append_lies _ rfl (.tmp 26) (.tmp 33) 98 rfl w.heap.size 4 j0 (.bool false) 1 1 Try.underlying98 hj hy0 hy1 hy2 rfl (by decide) (.slice a2 N c2) N (opens S) rfl (by have h := hM3.o2; rw [HN.out] at h; exact h) ⟨W2.heap.size, 0, none⟩ 1 1 [.bool g] rfl rfl (fun j u hj => by match j, hj with | 0, hj => simp at hj; subst hj; rw [add_none]; exact hn3 | j + 1, hj => simp at hj) (by simp [Value.oneCell']) (by decide) (by unfold maxLen; omega) (by omega) hB3.size _ rfl ?_
      intro g2 d2 W4 ho4 hg4 hat4 hlt4
      have hS4 := hM3.app2 (o := g) (g := g2) (cap := d2) (by rw [HN.out]; exact ho4) hg4 hat4
      have hB4 : Below w.heap.size w W4 := hB3.grown hg4 hB3.size (fun q hq => (World.ownsRow.lt hM3.o2 q hq).1)
      clear ho4 hg4 hat4 hlt4 hn3
      refine hK _ _ (fun h => (by exact HCE.out _ hB4)) ?_
      clear hK K
      (try simp only [Act.put, List.setIfInBounds_toArray, List.set_cons_zero, List.set_cons_succ])
      (refine keep_pure 18 (v := ?_) rfl (by kernel_rfl) (by kernel_rfl) (by kernel_rfl) (by kernel_rfl) (fun _ _ _ h => h) (Or.inl ⟨by rfl, ?_⟩) (.inr (by exact HCE.out _ hB4)) ?_; rotate_left 1; focus (intro _; go_simp; (try go_ints); try (with_reducible rfl)); (try simp only [Act.put, List.setIfInBounds_toArray, List.set_cons_zero, List.set_cons_succ]))
      (refine keep_pure 19 (v := ?_) rfl (by kernel_rfl) (by kernel_rfl) (by kernel_rfl) (by kernel_rfl) (fun _ _ _ h => h) (Or.inl ⟨by rfl, ?_⟩) (.inr (by exact HCE.out _ hB4)) ?_; rotate_left 1; focus (intro _; go_simp; (try go_ints); try (with_reducible rfl)); (try simp only [Act.put, List.setIfInBounds_toArray, List.set_cons_zero, List.set_cons_succ]))
      (refine keep_done (by kernel_rfl) ?_)
      clear hS0 hB0 hS1 hB1 hM2 hB2 hM3 hB3 HW0
      obtain ⟨S1, hS1d⟩ : ∃ S1, S1 = (k, g) :: S := ⟨_, rfl⟩
      have hS1l : S1.length = N + 1 := by rw [hS1d, ← HN.out]; rfl
      rw [HN.out] at hS4
      rw [← hS1d] at HNext HLB hS4
      have hMi : N + 1 ≤ i + 1 := by omega
      generalize hMd : N + 1 = M at hS1l hS4 HNext hMi ⊢
      clear hMd
      have HBlk : w.heap.size ≤ g1 := (World.ownsRow.lt hS4.o1 g1 rfl).1
      have HS1l := Lib.hid hS1l
      have HS4 := Lib.hid hS4
      have HB4 := Lib.hid hB4
      clear hS1d hS1l hS4 hB4
      go_wp2
      go_loopw [9, 10] (fun s t wq => ∃ q : Nat, s = .int .i64 ((S1.reverse.take q).countP (·.2) : Nat) ∧ t = .int .i64 q ∧ q ≤ M ∧ Stk w.heap.size wq (.slice (some ⟨g1, 0, none⟩) (M) d1) (.slice (some ⟨g2, 0, none⟩) (M) d2) S1 ∧ Below w.heap.size w wq) (fun _ t _ => M - (intOf t).toNat)
      case atStart => exact ⟨0, rfl, rfl, Nat.zero_le _, HS4.out, HB4.out⟩
      case round =>
        obtain ⟨q, rfl, rfl, hq, hsq, hbq⟩ := hrel
        have HSq := Lib.hid hsq
        have HBq := Lib.hid hbq
        clear hsq hbq
        by_cases hql : q < M
        · obtain ⟨oq, ho1, ho2⟩ := HSq.out.openAt HS1l.out.symm (k := q) (by rw [HS1l.out]; exact hql)
          have hcl : (S1.reverse.take q).countP (·.2) ≤ q := Nat.le_trans List.countP_le_length (by simp; omega)
          have HO2 := Lib.hid ho2
          generalize (S1.reverse.take q).countP (·.2) = y at hcl HO2 ⊢
          clear ho2
          have q0 : (0 : Int) ≤ q := by omega
          have q1 : (q : Int) < M := by omega
          cases oq with
          | true =>
            go_wp2
            go_roundw
            case rel => exact ⟨q + 1, by rw [HO2.out]; go_num, by go_num, by omega, HSq.out, HBq.out⟩
            case measure => simp [intOf]; omega
          | false =>
            go_wp2
            go_roundw
            case rel => exact ⟨q + 1, by rw [HO2.out]; go_num, by go_num, by omega, HSq.out, HBq.out⟩
            case measure => simp [intOf]; omega
        · obtain rfl : M = q := by omega
          have hins : (S1.reverse.take (M)).countP (·.2) = insF S1 := by
            rw [List.take_of_length_le (by rw [List.length_reverse, HS1l.out]; omega), insF, List.countP_reverse]
          have hil := insF_le S1
          rw [HS1l.out] at hil
          generalize (S1.reverse.take (M)).countP (·.2) = y at hins ⊢
          subst hins
          have HNx : Hid (levG (xs.drop (i + 1)) (popF S1) (max d (M)) (max n (insF S1)) = levF xs) := HNext
          generalize insF S1 = y at hil HNx ⊢
          clear HNext HS4 HB4
          have hyi : y ≤ i + 1 := by omega
          have hds : (d < M ∧ max d (M) = M) ∨ (M ≤ d ∧ max d (M) = d) := by omega
          have hns : (n < y ∧ max n y = y) ∨ (y ≤ n ∧ max n y = n) := by omega
          rcases hds with ⟨hD, eD⟩ | ⟨hD, eD⟩
          all_goals rcases hns with ⟨hE, eE⟩ | ⟨hE, eE⟩
          · rw [eD, eE] at HNx
            clear eD eE
            have hDi : (d : Int) < M := by omega
            have hEi : (n : Int) < y := by omega
            go_wp2
            go_loopw [6, 7] (fun tl to wq => ∃ (S' : List (Int × Bool)), tl = .slice (some ⟨g1, 0, none⟩) S'.length d1 ∧ to = .slice (some ⟨g2, 0, none⟩) S'.length d2 ∧ S'.length ≤ M ∧ popF S' = popF S1 ∧ LowB i S' ∧ Stk w.heap.size wq (.slice (some ⟨g1, 0, none⟩) S'.length d1) (.slice (some ⟨g2, 0, none⟩) S'.length d2) S' ∧ Below w.heap.size w wq) (fun tl _ _ => lenV tl)
            case atStart => exact ⟨S1, by rw [HS1l.out], by rw [HS1l.out], by rw [HS1l.out]; exact Nat.le_refl _, rfl, HLB.out, by rw [HS1l.out]; exact HSq.out, HBq.out⟩
            case round =>
              obtain ⟨S', rfl, rfl, hsl, hpop, hlb, hsk, hbk⟩ := hrel
              have HPop := Lib.hid hpop
              have HLb := Lib.hid hlb
              have HSk := Lib.hid hsk
              have HBk := Lib.hid hbk
              have HSk1 : w.heap.size ≤ g1 := HBlk
              clear hpop hlb hsk hbk
              cases S' with
              | nil =>
                have hnl : ([] : List (Int × Bool)).length = 0 := rfl
                rw [hnl]
                have HF : Hid (popF S1 = []) := Lib.hid (by rw [← HPop.out]; rfl)
                rw [HF.out] at HNx
                clear hnl
                go_wp2
                go_roundw
                case rel => exact ⟨i + 1, _, _, [], _, _, _, _, by first | rfl | go_num, by first | rfl | go_num, rfl, rfl, by go_num, by omega, by simp, by omega, by omega, (fun x hx => by cases hx), HNx.out, HSk.out, HBk.out⟩
                case measure => simp [intOf]; omega
              | cons x r =>
                obtain ⟨l, ob⟩ := x
                have htop := HSk.out.top rfl
                by_cases hl0 : l = 0
                · subst hl0
                  have hnx : popF (decF r) = popF S1 := (popF_next (o := ob) rfl).trans HPop.out
                  have hlb2 := HLb.out.next
                  have hsk2 := HSk.out.pop rfl
                  obtain ⟨hk1, hk2⟩ := row_cap HSk.out.o1
                  obtain ⟨hk3, hk4⟩ := row_cap HSk.out.o2
                  unfold maxLen at hk2 hk4
                  rw [List.length_cons] at hk1 hk3
                  have HNX := Lib.hid hnx
                  have HLB2 := Lib.hid hlb2
                  have HSK2 := Lib.hid hsk2
                  have HLB0 := HLb
                  clear hnx hlb2 hsk2 HLb HPop HSk HNx
                  cases r with
                  | nil =>
                    have h1 : ((0, ob) :: ([] : List (Int × Bool))).length = 1 := rfl
                    rw [h1]
                    have t1 := htop.1
                    rw [show ([] : List (Int × Bool)).length = 0 from rfl] at t1
                    rw [show ([] : List (Int × Bool)).length = 0 from rfl] at hk1 hk3
                    clear htop h1
                    go_wp2
                    go_quiet (fail)
                    go_wp2
                    go_roundw
                    case rel => exact ⟨[], rfl, rfl, by simp, HNX.out, HLB2.out, by first | exact HSK2.out | exact HSK2.out.drew _, by first | exact HBk.out | exact belDraws HBk.out _⟩
                    case measure => simp [lenV]
                  | cons z r2 =>
                    obtain ⟨l2, o2⟩ := z
                    have h1 : ((0, ob) :: (l2, o2) :: r2).length = r2.length + 2 := rfl
                    have h2 : ((l2, o2) :: r2).length = r2.length + 1 := rfl
                    have t1 := htop.1
                    rw [h2] at t1
                    obtain ⟨t2, t3⟩ := HSK2.out.top rfl
                    have hd := fun q => (HSK2.out.drew q).dec rfl
                    have hlb3 := HLB0.out.2 (l2, o2) (by simp)
                    dsimp only at hlb3
                    rw [h1] at hsl
                    rw [h1]
                    simp only [h2] at hd
                    have HD := Lib.hid hd
                    have hbd := fun q => (belDraws HBk.out q).setCell (p := ⟨g1, r2.length, none⟩) HSk1 (.int .i64 (l2 - 1))
                    have HBd := Lib.hid hbd
                    clear htop h1 hd hbd HSK2
                    obtain ⟨R, hR⟩ : ∃ R, R = r2.length := ⟨_, rfl⟩
                    have HR := Lib.hid hR
                    rw [h2] at hk1 hk3
                    rw [← hR] at t1 t2 t3 hsl HD HBd hk1 hk3 ⊢
                    clear hR h2
                    go_wp2
                    go_quiet (fail)
                    go_wp2
                    go_roundw
                    case rel => exact ⟨(l2 - 1, o2) :: r2, by rw [HR.out]; rfl, by rw [HR.out]; rfl, by rw [List.length_cons, ← HR.out]; omega, HNX.out, HLB2.out, by rw [List.length_cons, ← HR.out]; exact HD.out _, HBd.out _⟩
                    case measure => simp [lenV]
                · have HF : Hid (popF S1 = (l, ob) :: r) := Lib.hid (by rw [← HPop.out]; exact popF_done hl0)
                  rw [HF.out] at HNx
                  have hq : (l == 0) = false := by simpa using hl0
                  have h1 : ((l, ob) :: r).length = r.length + 1 := rfl
                  have t1 := htop.1
                  rw [h1] at HSk hsl
                  rw [h1]
                  have HLow2 : Hid (Low ((i + 1 : Nat) : Int) ((l, ob) :: r)) := Lib.hid (by have := HLb.out.low; rwa [Int.natCast_add, Int.natCast_one])
                  obtain ⟨R, hR⟩ : ∃ R, R = r.length := ⟨_, rfl⟩
                  have HR := Lib.hid hR
                  rw [← hR] at t1 HSk hsl ⊢
                  clear htop h1 hR hl0 HLb HPop
                  go_wp2
                  go_roundw
                  case rel => exact ⟨i + 1, _, _, (l, ob) :: r, _, _, _, _, by first | rfl | go_num, by first | rfl | go_num, by rw [HR.out]; rfl, by rw [HR.out]; rfl, by go_num, by omega, by rw [List.length_cons, ← HR.out]; omega, by omega, by omega, HLow2.out, HNx.out, by rw [List.length_cons, ← HR.out]; exact HSk.out, HBk.out⟩
                  case measure => simp [intOf]; omega
          · rw [eD, eE] at HNx
            clear eD eE
            have hDi : (d : Int) < M := by omega
            have hEi : (y : Int) ≤ n := by omega
            go_wp2
            go_loopw [6, 7] (fun tl to wq => ∃ (S' : List (Int × Bool)), tl = .slice (some ⟨g1, 0, none⟩) S'.length d1 ∧ to = .slice (some ⟨g2, 0, none⟩) S'.length d2 ∧ S'.length ≤ M ∧ popF S' = popF S1 ∧ LowB i S' ∧ Stk w.heap.size wq (.slice (some ⟨g1, 0, none⟩) S'.length d1) (.slice (some ⟨g2, 0, none⟩) S'.length d2) S' ∧ Below w.heap.size w wq) (fun tl _ _ => lenV tl)
            case atStart => exact ⟨S1, by rw [HS1l.out], by rw [HS1l.out], by rw [HS1l.out]; exact Nat.le_refl _, rfl, HLB.out, by rw [HS1l.out]; exact HSq.out, HBq.out⟩
            case round =>
              obtain ⟨S', rfl, rfl, hsl, hpop, hlb, hsk, hbk⟩ := hrel
              have HPop := Lib.hid hpop
              have HLb := Lib.hid hlb
              have HSk := Lib.hid hsk
              have HBk := Lib.hid hbk
              have HSk1 : w.heap.size ≤ g1 := HBlk
              clear hpop hlb hsk hbk
              cases S' with
              | nil =>
                have hnl : ([] : List (Int × Bool)).length = 0 := rfl
                rw [hnl]
                have HF : Hid (popF S1 = []) := Lib.hid (by rw [← HPop.out]; rfl)
                rw [HF.out] at HNx
                clear hnl
                go_wp2
                go_roundw
                case rel => exact ⟨i + 1, _, _, [], _, _, _, _, by first | rfl | go_num, by first | rfl | go_num, rfl, rfl, by go_num, by omega, by simp, by omega, by omega, (fun x hx => by cases hx), HNx.out, HSk.out, HBk.out⟩
                case measure => simp [intOf]; omega
              | cons x r =>
                obtain ⟨l, ob⟩ := x
                have htop := HSk.out.top rfl
                by_cases hl0 : l = 0
                · subst hl0
                  have hnx : popF (decF r) = popF S1 := (popF_next (o := ob) rfl).trans HPop.out
                  have hlb2 := HLb.out.next
                  have hsk2 := HSk.out.pop rfl
                  obtain ⟨hk1, hk2⟩ := row_cap HSk.out.o1
                  obtain ⟨hk3, hk4⟩ := row_cap HSk.out.o2
                  unfold maxLen at hk2 hk4
                  rw [List.length_cons] at hk1 hk3
                  have HNX := Lib.hid hnx
                  have HLB2 := Lib.hid hlb2
                  have HSK2 := Lib.hid hsk2
                  have HLB0 := HLb
                  clear hnx hlb2 hsk2 HLb HPop HSk HNx
                  cases r with
                  | nil =>
                    have h1 : ((0, ob) :: ([] : List (Int × Bool))).length = 1 := rfl
                    rw [h1]
                    have t1 := htop.1
                    rw [show ([] : List (Int × Bool)).length = 0 from rfl] at t1
                    rw [show ([] : List (Int × Bool)).length = 0 from rfl] at hk1 hk3
                    clear htop h1
                    go_wp2
                    go_quiet (fail)
                    go_wp2
                    go_roundw
                    case rel => exact ⟨[], rfl, rfl, by simp, HNX.out, HLB2.out, by first | exact HSK2.out | exact HSK2.out.drew _, by first | exact HBk.out | exact belDraws HBk.out _⟩
                    case measure => simp [lenV]
                  | cons z r2 =>
                    obtain ⟨l2, o2⟩ := z
                    have h1 : ((0, ob) :: (l2, o2) :: r2).length = r2.length + 2 := rfl
                    have h2 : ((l2, o2) :: r2).length = r2.length + 1 := rfl
                    have t1 := htop.1
                    rw [h2] at t1
                    obtain ⟨t2, t3⟩ := HSK2.out.top rfl
                    have hd := fun q => (HSK2.out.drew q).dec rfl
                    have hlb3 := HLB0.out.2 (l2, o2) (by simp)
                    dsimp only at hlb3
                    rw [h1] at hsl
                    rw [h1]
                    simp only [h2] at hd
                    have HD := Lib.hid hd
                    have hbd := fun q => (belDraws HBk.out q).setCell (p := ⟨g1, r2.length, none⟩) HSk1 (.int .i64 (l2 - 1))
                    have HBd := Lib.hid hbd
                    clear htop h1 hd hbd HSK2
                    obtain ⟨R, hR⟩ : ∃ R, R = r2.length := ⟨_, rfl⟩
                    have HR := Lib.hid hR
                    rw [h2] at hk1 hk3
                    rw [← hR] at t1 t2 t3 hsl HD HBd hk1 hk3 ⊢
                    clear hR h2
                    go_wp2
                    go_quiet (fail)
                    go_wp2
                    go_roundw
                    case rel => exact ⟨(l2 - 1, o2) :: r2, by rw [HR.out]; rfl, by rw [HR.out]; rfl, by rw [List.length_cons, ← HR.out]; omega, HNX.out, HLB2.out, by rw [List.length_cons, ← HR.out]; exact HD.out _, HBd.out _⟩
                    case measure => simp [lenV]
                · have HF : Hid (popF S1 = (l, ob) :: r) := Lib.hid (by rw [← HPop.out]; exact popF_done hl0)
                  rw [HF.out] at HNx
                  have hq : (l == 0) = false := by simpa using hl0
                  have h1 : ((l, ob) :: r).length = r.length + 1 := rfl
                  have t1 := htop.1
                  rw [h1] at HSk hsl
                  rw [h1]
                  have HLow2 : Hid (Low ((i + 1 : Nat) : Int) ((l, ob) :: r)) := Lib.hid (by have := HLb.out.low; rwa [Int.natCast_add, Int.natCast_one])
                  obtain ⟨R, hR⟩ : ∃ R, R = r.length := ⟨_, rfl⟩
                  have HR := Lib.hid hR
                  rw [← hR] at t1 HSk hsl ⊢
                  clear htop h1 hR hl0 HLb HPop
                  go_wp2
                  go_roundw
                  case rel => exact ⟨i + 1, _, _, (l, ob) :: r, _, _, _, _, by first | rfl | go_num, by first | rfl | go_num, by rw [HR.out]; rfl, by rw [HR.out]; rfl, by go_num, by omega, by rw [List.length_cons, ← HR.out]; omega, by omega, by omega, HLow2.out, HNx.out, by rw [List.length_cons, ← HR.out]; exact HSk.out, HBk.out⟩
                  case measure => simp [intOf]; omega
          · rw [eD, eE] at HNx
            clear eD eE
            have hDi : (M : Int) ≤ d := by omega
            have hEi : (n : Int) < y := by omega
            go_wp2
            go_loopw [6, 7] (fun tl to wq => ∃ (S' : List (Int × Bool)), tl = .slice (some ⟨g1, 0, none⟩) S'.length d1 ∧ to = .slice (some ⟨g2, 0, none⟩) S'.length d2 ∧ S'.length ≤ M ∧ popF S' = popF S1 ∧ LowB i S' ∧ Stk w.heap.size wq (.slice (some ⟨g1, 0, none⟩) S'.length d1) (.slice (some ⟨g2, 0, none⟩) S'.length d2) S' ∧ Below w.heap.size w wq) (fun tl _ _ => lenV tl)
            case atStart => exact ⟨S1, by rw [HS1l.out], by rw [HS1l.out], by rw [HS1l.out]; exact Nat.le_refl _, rfl, HLB.out, by rw [HS1l.out]; exact HSq.out, HBq.out⟩
            case round =>
              obtain ⟨S', rfl, rfl, hsl, hpop, hlb, hsk, hbk⟩ := hrel
              have HPop := Lib.hid hpop
              have HLb := Lib.hid hlb
              have HSk := Lib.hid hsk
              have HBk := Lib.hid hbk
              have HSk1 : w.heap.size ≤ g1 := HBlk
              clear hpop hlb hsk hbk
              cases S' with
              | nil =>
                have hnl : ([] : List (Int × Bool)).length = 0 := rfl
                rw [hnl]
                have HF : Hid (popF S1 = []) := Lib.hid (by rw [← HPop.out]; rfl)
                rw [HF.out] at HNx
                clear hnl
                go_wp2
                go_roundw
                case rel => exact ⟨i + 1, _, _, [], _, _, _, _, by first | rfl | go_num, by first | rfl | go_num, rfl, rfl, by go_num, by omega, by simp, by omega, by omega, (fun x hx => by cases hx), HNx.out, HSk.out, HBk.out⟩
                case measure => simp [intOf]; omega
              | cons x r =>
                obtain ⟨l, ob⟩ := x
                have htop := HSk.out.top rfl
                by_cases hl0 : l = 0
                · subst hl0
                  have hnx : popF (decF r) = popF S1 := (popF_next (o := ob) rfl).trans HPop.out
                  have hlb2 := HLb.out.next
                  have hsk2 := HSk.out.pop rfl
                  obtain ⟨hk1, hk2⟩ := row_cap HSk.out.o1
                  obtain ⟨hk3, hk4⟩ := row_cap HSk.out.o2
                  unfold maxLen at hk2 hk4
                  rw [List.length_cons] at hk1 hk3
                  have HNX := Lib.hid hnx
                  have HLB2 := Lib.hid hlb2
                  have HSK2 := Lib.hid hsk2
                  have HLB0 := HLb
                  clear hnx hlb2 hsk2 HLb HPop HSk HNx
                  cases r with
                  | nil =>
                    have h1 : ((0, ob) :: ([] : List (Int × Bool))).length = 1 := rfl
                    rw [h1]
                    have t1 := htop.1
                    rw [show ([] : List (Int × Bool)).length = 0 from rfl] at t1
                    rw [show ([] : List (Int × Bool)).length = 0 from rfl] at hk1 hk3
                    clear htop h1
                    go_wp2
                    go_quiet (fail)
                    go_wp2
                    go_roundw
                    case rel => exact ⟨[], rfl, rfl, by simp, HNX.out, HLB2.out, by first | exact HSK2.out | exact HSK2.out.drew _, by first | exact HBk.out | exact belDraws HBk.out _⟩
                    case measure => simp [lenV]
                  | cons z r2 =>
                    obtain ⟨l2, o2⟩ := z
                    have h1 : ((0, ob) :: (l2, o2) :: r2).length = r2.length + 2 := rfl
                    have h2 : ((l2, o2) :: r2).length = r2.length + 1 := rfl
                    have t1 := htop.1
                    rw [h2] at t1
                    obtain ⟨t2, t3⟩ := HSK2.out.top rfl
                    have hd := fun q => (HSK2.out.drew q).dec rfl
                    have hlb3 := HLB0.out.2 (l2, o2) (by simp)
                    dsimp only at hlb3
                    rw [h1] at hsl
                    rw [h1]
                    simp only [h2] at hd
                    have HD := Lib.hid hd
                    have hbd := fun q => (belDraws HBk.out q).setCell (p := ⟨g1, r2.length, none⟩) HSk1 (.int .i64 (l2 - 1))
                    have HBd := Lib.hid hbd
                    clear htop h1 hd hbd HSK2
                    obtain ⟨R, hR⟩ : ∃ R, R = r2.length := ⟨_, rfl⟩
                    have HR := Lib.hid hR
                    rw [h2] at hk1 hk3
                    rw [← hR] at t1 t2 t3 hsl HD HBd hk1 hk3 ⊢
                    clear hR h2
                    go_wp2
                    go_quiet (fail)
                    go_wp2
                    go_roundw
                    case rel => exact ⟨(l2 - 1, o2) :: r2, by rw [HR.out]; rfl, by rw [HR.out]; rfl, by rw [List.length_cons, ← HR.out]; omega, HNX.out, HLB2.out, by rw [List.length_cons, ← HR.out]; exact HD.out _, HBd.out _⟩
                    case measure => simp [lenV]
                · have HF : Hid (popF S1 = (l, ob) :: r) := Lib.hid (by rw [← HPop.out]; exact popF_done hl0)
                  rw [HF.out] at HNx
                  have hq : (l == 0) = false := by simpa using hl0
                  have h1 : ((l, ob) :: r).length = r.length + 1 := rfl
                  have t1 := htop.1
                  rw [h1] at HSk hsl
                  rw [h1]
                  have HLow2 : Hid (Low ((i + 1 : Nat) : Int) ((l, ob) :: r)) := Lib.hid (by have := HLb.out.low; rwa [Int.natCast_add, Int.natCast_one])
                  obtain ⟨R, hR⟩ : ∃ R, R = r.length := ⟨_, rfl⟩
                  have HR := Lib.hid hR
                  rw [← hR] at t1 HSk hsl ⊢
                  clear htop h1 hR hl0 HLb HPop
                  go_wp2
                  go_roundw
                  case rel => exact ⟨i + 1, _, _, (l, ob) :: r, _, _, _, _, by first | rfl | go_num, by first | rfl | go_num, by rw [HR.out]; rfl, by rw [HR.out]; rfl, by go_num, by omega, by rw [List.length_cons, ← HR.out]; omega, by omega, by omega, HLow2.out, HNx.out, by rw [List.length_cons, ← HR.out]; exact HSk.out, HBk.out⟩
                  case measure => simp [intOf]; omega
          · rw [eD, eE] at HNx
            clear eD eE
            have hDi : (M : Int) ≤ d := by omega
            have hEi : (y : Int) ≤ n := by omega
            go_wp2
            go_loopw [6, 7] (fun tl to wq => ∃ (S' : List (Int × Bool)), tl = .slice (some ⟨g1, 0, none⟩) S'.length d1 ∧ to = .slice (some ⟨g2, 0, none⟩) S'.length d2 ∧ S'.length ≤ M ∧ popF S' = popF S1 ∧ LowB i S' ∧ Stk w.heap.size wq (.slice (some ⟨g1, 0, none⟩) S'.length d1) (.slice (some ⟨g2, 0, none⟩) S'.length d2) S' ∧ Below w.heap.size w wq) (fun tl _ _ => lenV tl)
            case atStart => exact ⟨S1, by rw [HS1l.out], by rw [HS1l.out], by rw [HS1l.out]; exact Nat.le_refl _, rfl, HLB.out, by rw [HS1l.out]; exact HSq.out, HBq.out⟩
            case round =>
              obtain ⟨S', rfl, rfl, hsl, hpop, hlb, hsk, hbk⟩ := hrel
              have HPop := Lib.hid hpop
              have HLb := Lib.hid hlb
              have HSk := Lib.hid hsk
              have HBk := Lib.hid hbk
              have HSk1 : w.heap.size ≤ g1 := HBlk
              clear hpop hlb hsk hbk
              cases S' with
              | nil =>
                have hnl : ([] : List (Int × Bool)).length = 0 := rfl
                rw [hnl]
                have HF : Hid (popF S1 = []) := Lib.hid (by rw [← HPop.out]; rfl)
                rw [HF.out] at HNx
                clear hnl
                go_wp2
                go_roundw
                case rel => exact ⟨i + 1, _, _, [], _, _, _, _, by first | rfl | go_num, by first | rfl | go_num, rfl, rfl, by go_num, by omega, by simp, by omega, by omega, (fun x hx => by cases hx), HNx.out, HSk.out, HBk.out⟩
                case measure => simp [intOf]; omega
              | cons x r =>
                obtain ⟨l, ob⟩ := x
                have htop := HSk.out.top rfl
                by_cases hl0 : l = 0
                · subst hl0
                  have hnx : popF (decF r) = popF S1 := (popF_next (o := ob) rfl).trans HPop.out
                  have hlb2 := HLb.out.next
                  have hsk2 := HSk.out.pop rfl
                  obtain ⟨hk1, hk2⟩ := row_cap HSk.out.o1
                  obtain ⟨hk3, hk4⟩ := row_cap HSk.out.o2
                  unfold maxLen at hk2 hk4
                  rw [List.length_cons] at hk1 hk3
                  have HNX := Lib.hid hnx
                  have HLB2 := Lib.hid hlb2
                  have HSK2 := Lib.hid hsk2
                  have HLB0 := HLb
                  clear hnx hlb2 hsk2 HLb HPop HSk HNx
                  cases r with
                  | nil =>
                    have h1 : ((0, ob) :: ([] : List (Int × Bool))).length = 1 := rfl
                    rw [h1]
                    have t1 := htop.1
                    rw [show ([] : List (Int × Bool)).length = 0 from rfl] at t1
                    rw [show ([] : List (Int × Bool)).length = 0 from rfl] at hk1 hk3
                    clear htop h1
                    go_wp2
                    go_quiet (fail)
                    go_wp2
                    go_roundw
                    case rel => exact ⟨[], rfl, rfl, by simp, HNX.out, HLB2.out, by first | exact HSK2.out | exact HSK2.out.drew _, by first | exact HBk.out | exact belDraws HBk.out _⟩
                    case measure => simp [lenV]
                  | cons z r2 =>
                    obtain ⟨l2, o2⟩ := z
                    have h1 : ((0, ob) :: (l2, o2) :: r2).length = r2.length + 2 := rfl
                    have h2 : ((l2, o2) :: r2).length = r2.length + 1 := rfl
                    have t1 := htop.1
                    rw [h2] at t1
                    obtain ⟨t2, t3⟩ := HSK2.out.top rfl
                    have hd := fun q => (HSK2.out.drew q).dec rfl
                    have hlb3 := HLB0.out.2 (l2, o2) (by simp)
                    dsimp only at hlb3
                    rw [h1] at hsl
                    rw [h1]
                    simp only [h2] at hd
                    have HD := Lib.hid hd
                    have hbd := fun q => (belDraws HBk.out q).setCell (p := ⟨g1, r2.length, none⟩) HSk1 (.int .i64 (l2 - 1))
                    have HBd := Lib.hid hbd
                    clear htop h1 hd hbd HSK2
                    obtain ⟨R, hR⟩ : ∃ R, R = r2.length := ⟨_, rfl⟩
                    have HR := Lib.hid hR
                    rw [h2] at hk1 hk3
                    rw [← hR] at t1 t2 t3 hsl HD HBd hk1 hk3 ⊢
                    clear hR h2
                    go_wp2
                    go_quiet (fail)
                    go_wp2
                    go_roundw
                    case rel => exact ⟨(l2 - 1, o2) :: r2, by rw [HR.out]; rfl, by rw [HR.out]; rfl, by rw [List.length_cons, ← HR.out]; omega, HNX.out, HLB2.out, by rw [List.length_cons, ← HR.out]; exact HD.out _, HBd.out _⟩
                    case measure => simp [lenV]
                · have HF : Hid (popF S1 = (l, ob) :: r) := Lib.hid (by rw [← HPop.out]; exact popF_done hl0)
                  rw [HF.out] at HNx
                  have hq : (l == 0) = false := by simpa using hl0
                  have h1 : ((l, ob) :: r).length = r.length + 1 := rfl
                  have t1 := htop.1
                  rw [h1] at HSk hsl
                  rw [h1]
                  have HLow2 : Hid (Low ((i + 1 : Nat) : Int) ((l, ob) :: r)) := Lib.hid (by have := HLb.out.low; rwa [Int.natCast_add, Int.natCast_one])
                  obtain ⟨R, hR⟩ : ∃ R, R = r.length := ⟨_, rfl⟩
                  have HR := Lib.hid hR
                  rw [← hR] at t1 HSk hsl ⊢
                  clear htop h1 hR hl0 HLb HPop
                  go_wp2
                  go_roundw
                  case rel => exact ⟨i + 1, _, _, (l, ob) :: r, _, _, _, _, by first | rfl | go_num, by first | rfl | go_num, by rw [HR.out]; rfl, by rw [HR.out]; rfl, by go_num, by omega, by rw [List.length_cons, ← HR.out]; omega, by omega, by omega, HLow2.out, HNx.out, by rw [List.length_cons, ← HR.out]; exact HSk.out, HBk.out⟩
                  case measure => simp [intOf]; omega
    · obtain rfl : i = m := by omega
      have hf : levF xs = (d, n) := by
        rw [← HLev.out, HM.out, List.drop_length]
        rfl
      go_wp2
      refine bodyPost_ret (v := .tuple #[.int .i64 d, .int .i64 n]) (by first | rfl | (simp [results]; done) | (kernel_rfl)) rfl ?_
      exact ⟨by rw [hf], by first | exact hbr | exact belDraws hbr _⟩
end Go.Proofs.Ytckofngclgkajaa
namespace Go.Proofs.Ytckofngclgkajaa
open Go.RowKit

def depF (xs : List (Int × Int)) : Int := if oneB xs = true then ((levF xs).1 : Int) else 0
def nesF (xs : List (Int × Int)) : Int := if oneB xs = true then ((levF xs).2 : Int) else 0
def validE (xs : List (Int × Int)) (vars : Int) : Bool := decide (xs.length ≤ 200) && oneB xs && decide (depF xs ≤ 24) && decide (nesF xs ≤ 2) && xs.all fun t => argB t vars

theorem depthR_any (a : Option Addr) (c : Nat) (xs : List (Int × Int)) (w : World) (hX : LinksAt w a xs) (hn : xs.length ≤ 1000) :
    Calls Try.prog 50 #[.slice a xs.length c] w fun e w' => e = .returned (.int .i64 (depF xs)) ∧ Below w.heap.size w w' := by
  have HO := Lib.hid (oneR_any a c xs w hX (by omega))
  have HL := Lib.hid (fun (W : World) (hb : Below w.heap.size w W) => levelsR_any a c xs W (hX.below hb) hn)
  unfold depF
  generalize oneB xs = b at HO ⊢
  generalize levF xs = z at HL ⊢
  obtain ⟨d, n⟩ := z
  dsimp only at HL ⊢
  generalize xs.length = m at HO HL ⊢
  clear hX hn
  cases b with
  | false =>
    go_enter Try.func50, Try.ntmps50
    go_wp2_with (go_at_call 49; refine HO.out.mono ?_; rintro e w1 ⟨rfl, hb1⟩)
    go_ret
    exact ⟨rfl, hb1⟩
  | true =>
    go_enter Try.func50, Try.ntmps50
    go_wp2_with (first | (go_at_call 49; refine HO.out.mono ?_; rintro e w1 ⟨rfl, hb1⟩) | (go_at_call 70; refine (HL.out _ hb1).mono ?_; rintro e w2 ⟨rfl, hb2⟩))
    go_ret
    exact ⟨rfl, hb1.trans (hb2.mono hb1.size)⟩
theorem nestR_any (a : Option Addr) (c : Nat) (xs : List (Int × Int)) (w : World) (hX : LinksAt w a xs) (hn : xs.length ≤ 1000) :
    Calls Try.prog 51 #[.slice a xs.length c] w fun e w' => e = .returned (.int .i64 (nesF xs)) ∧ Below w.heap.size w w' := by
  have HO := Lib.hid (oneR_any a c xs w hX (by omega))
  have HL := Lib.hid (fun (W : World) (hb : Below w.heap.size w W) => levelsR_any a c xs W (hX.below hb) hn)
  unfold nesF
  generalize oneB xs = b at HO ⊢
  generalize levF xs = z at HL ⊢
  obtain ⟨d, n⟩ := z
  dsimp only at HL ⊢
  generalize xs.length = m at HO HL ⊢
  clear hX hn
  cases b with
  | false =>
    go_enter Try.func51, Try.ntmps51
    go_wp2_with (go_at_call 49; refine HO.out.mono ?_; rintro e w1 ⟨rfl, hb1⟩)
    go_ret
    exact ⟨rfl, hb1⟩
  | true =>
    go_enter Try.func51, Try.ntmps51
    go_wp2_with (first | (go_at_call 49; refine HO.out.mono ?_; rintro e w1 ⟨rfl, hb1⟩) | (go_at_call 70; refine (HL.out _ hb1).mono ?_; rintro e w2 ⟨rfl, hb2⟩))
    go_ret
    exact ⟨rfl, hb1.trans (hb2.mono hb1.size)⟩
theorem all_upto {xs : List (Int × Int)} {p : Int × Int → Bool} (h : ∀ i, i < xs.length → p (toA xs i, wtA xs i) = true) : xs.all p = true := by
  rw [List.all_eq_true]
  intro x hx
  obtain ⟨i, hi, rfl⟩ := List.mem_iff_getElem.1 hx
  have := h i hi
  simpa [toA, wtA, hi] using this
theorem not_all {xs : List (Int × Int)} {p : Int × Int → Bool} {i : Nat} (hi : i < xs.length) (h : p (toA xs i, wtA xs i) = false) : xs.all p = false := by
  rw [Bool.eq_false_iff]
  intro h2
  rw [List.all_eq_true] at h2
  have := h2 xs[i] (List.getElem_mem hi)
  simp [toA, wtA, hi] at h
  rw [h] at this
  cases this

set_option maxHeartbeats 1000000 in
theorem validR_any (a : Option Addr) (c : Nat) (xs : List (Int × Int)) (vars : Int) (w : World) (hX : LinksAt w a xs) (hn : xs.length ≤ 1000) :
    Calls Try.prog 25 #[.slice a xs.length c, .int .i64 vars] w fun e w' => e = .returned (.bool (validE xs vars)) ∧ Below w.heap.size w w' := by
  have HX := Lib.hid hX
  have HO := Lib.hid (fun (W : World) (hb : Below w.heap.size w W) => oneR_any a c xs W (hX.below hb) (by omega))
  have HD := Lib.hid (fun (W : World) (hb : Below w.heap.size w W) => depthR_any a c xs W (hX.below hb) hn)
  have HE := Lib.hid (fun (W : World) (hb : Below w.heap.size w W) => nestR_any a c xs W (hX.below hb) hn)
  obtain ⟨m, hm⟩ : ∃ m, m = xs.length := ⟨_, rfl⟩
  have HM := Lib.hid hm
  obtain ⟨V, hV⟩ : ∃ V, V = validE xs vars := ⟨_, rfl⟩
  rw [← hV]
  unfold validE at hV
  obtain ⟨A, hA⟩ : ∃ A, A = xs.all fun t => argB t vars := ⟨_, rfl⟩
  have HA := Lib.hid hA
  rw [← hA, ← hm] at hV
  rw [← hm] at HO HD HE hn ⊢
  clear hm hX hA
  generalize oneB xs = b at HO hV
  generalize depF xs = d at HD hV
  generalize nesF xs = n at HE hV
  by_cases h1 : m ≤ 200
  case neg =>
    have hf : V = false := by rw [hV]; simp [h1]
    have d1 : decide ((m : Int) > 200) = true := by simp; omega
    clear hV
    go_enter Try.func25, Try.ntmps25
    go_wp2
    go_ret
    exact ⟨ret_bool hf.symm, by first | exact Below.refl _ _ | exact belDraws (Below.refl _ _) _⟩
  have d1 : decide ((m : Int) > 200) = false := by simp; omega
  have d1' : decide (200 < m) = false := by simp; omega
  cases b with
  | false =>
    have hf : V = false := by rw [hV]; simp
    clear hV
    go_enter Try.func25, Try.ntmps25
    go_wp2_with (go_at_call 49; refine (HO.out _ (Below.refl _ _)).mono ?_; rintro e w1 ⟨rfl, hb1⟩)
    go_ret
    exact ⟨ret_bool hf.symm, hb1⟩
  | true =>
  by_cases h2 : d ≤ 24
  case neg =>
    have hf : V = false := by rw [hV]; simp [h2]
    have d2 : decide (d > 24) = true := by simp; omega
    clear hV
    go_enter Try.func25, Try.ntmps25
    go_wp2_with (first | (go_at_call 49; refine (HO.out _ (Below.refl _ _)).mono ?_; rintro e w1 ⟨rfl, hb1⟩) | (go_at_call 50; refine (HD.out _ hb1).mono ?_; rintro e w2 ⟨rfl, hb2⟩))
    go_ret
    exact ⟨ret_bool hf.symm, hb1.trans (hb2.mono hb1.size)⟩
  have d2 : decide (d > 24) = false := by simp; omega
  by_cases h3 : n ≤ 2
  case neg =>
    have hf : V = false := by rw [hV]; simp [h3]
    have d3 : decide (n > 2) = true := by simp; omega
    clear hV
    go_enter Try.func25, Try.ntmps25
    go_wp2_with (first | (go_at_call 49; refine (HO.out _ (Below.refl _ _)).mono ?_; rintro e w1 ⟨rfl, hb1⟩) | (go_at_call 50; refine (HD.out _ hb1).mono ?_; rintro e w2 ⟨rfl, hb2⟩; have hb12 := hb1.trans (hb2.mono hb1.size)) | (go_at_call 51; refine (HE.out _ hb12).mono ?_; rintro e w3 ⟨rfl, hb3⟩))
    go_ret
    exact ⟨ret_bool hf.symm, hb12.trans (hb3.mono hb12.size)⟩
  have d3 : decide (n > 2) = false := by simp; omega
  have hf : V = A := by rw [hV]; simp [h1, h2, h3]
  have HF := Lib.hid hf
  clear hV hf
  go_enter Try.func25, Try.ntmps25
  go_wp2_with (first | (go_at_call 49; refine (HO.out _ (Below.refl _ _)).mono ?_; rintro e w1 ⟨rfl, hb1⟩) | (go_at_call 50; refine (HD.out _ hb1).mono ?_; rintro e w2 ⟨rfl, hb2⟩; have hb12 := hb1.trans (hb2.mono hb1.size)) | (go_at_call 51; refine (HE.out _ hb12).mono ?_; rintro e w3 ⟨rfl, hb3⟩))
  have HB3 := Lib.hid (hb12.trans (hb3.mono hb12.size))
  clear hb1 hb2 hb12 hb3
  go_loopw [5] (fun t wr => ∃ i : Nat, t = .int .i64 i ∧ i ≤ m ∧ (∀ j, j < i → argB (toA xs j, wtA xs j) vars = true) ∧ Below w.heap.size w wr) (fun t _ => m - (intOf t).toNat)
  case atStart => exact ⟨0, rfl, Nat.zero_le _, fun j hj => absurd hj (by omega), by first | exact HB3.out | exact belDraws HB3.out _⟩
  case round =>
    obtain ⟨i, rfl, him, hs, hbr⟩ := hrel
    have HS := Lib.hid hs
    have HBr := Lib.hid hbr
    clear hs hbr
    by_cases hlt : i < m
    · obtain ⟨lb, lo, rfl, hlb, hls⟩ := HX.out.row (by rw [← HM.out]; omega)
      have hxl : i < xs.length := by rw [← HM.out]; exact hlt
      have g1 := (HBr.out.cell (p := ⟨lb, lo + i * 2, none⟩) hlb).trans (hls i hxl).1
      have g2 := (HBr.out.cell (p := ⟨lb, lo + i * 2 + 1, none⟩) hlb).trans (hls i hxl).2
      have hii : (i : Int) < m := by omega
      clear hls
      cases hab : argB (toA xs i, wtA xs i) vars with
      | true =>
        have HS2 : Hid (∀ j, j < i + 1 → argB (toA xs j, wtA xs j) vars = true) := Lib.hid (fun j hj => by
          by_cases h : j < i
          · exact HS.out j h
          · rw [show j = i by omega]; exact hab)
        generalize toA xs i = op at g1 hab
        generalize wtA xs i = x at g2 hab
        have HAB := Lib.hid hab
        clear hab
        go_wp2_with (go_at_call 52; refine (argR_any op x vars _).mono ?_; rintro e w4 ⟨rfl, hb4⟩; rw [HAB.out])
        have hb5 := HBr.out.trans (hb4.mono HBr.out.size)
        go_roundw
        case rel => exact ⟨i + 1, by go_num, by omega, HS2.out, hb5⟩
        case measure => simp [intOf]; omega
      | false =>
        have hv : V = false := by
          rw [HF.out, HA.out]
          exact not_all hxl hab
        generalize toA xs i = op at g1 hab
        generalize wtA xs i = x at g2 hab
        have HAB := Lib.hid hab
        clear hab
        go_wp2_with (go_at_call 52; refine (argR_any op x vars _).mono ?_; rintro e w4 ⟨rfl, hb4⟩; rw [HAB.out])
        have hb5 := HBr.out.trans (hb4.mono HBr.out.size)
        go_ret
        exact ⟨ret_bool hv.symm, hb5⟩
    · obtain rfl : i = m := by omega
      have hv : V = true := by
        rw [HF.out, HA.out]
        exact all_upto (fun j hj => HS.out j (by rw [HM.out]; exact hj))
      go_wp2
      go_ret
      exact ⟨ret_bool hv.symm, by first | exact HBr.out | exact belDraws HBr.out _⟩
end Go.Proofs.Ytckofngclgkajaa
