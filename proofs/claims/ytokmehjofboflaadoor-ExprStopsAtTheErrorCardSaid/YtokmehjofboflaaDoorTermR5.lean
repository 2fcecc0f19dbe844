/- What Depth, Nest and Valid of the specification of layer 5 answer. -/
import Derived.Test.YtokmehjofboflaaDoorBase
import Derived.Deep.AppendLies
import Derived.Deep.RegionLaw
import Derived.Laws.OwnMore
import Derived.OrdersHeld
import Derived.RegionTactic
import Derived.KernelRfl
import Derived.Tactics
import Derived.IntWalk
namespace Go.Proofs.YtokmehjofboflaaDoor

/-- the number of operands of an operation; -1 if it is none -/
def arF (op : Int) : Int := if 1 ≤ op ∧ op ≤ 17 then 0 else if 18 ≤ op ∧ op ≤ 29 then 1 else if 30 ≤ op ∧ op ≤ 42 then 2 else if op = 43 then 3 else -1
theorem arF_le (op : Int) : -1 ≤ arF op ∧ arF op ≤ 3 := by unfold arF; repeat' split <;> omega
/-- whether an operation is an aggregate -/
def aggF (op : Int) : Bool := decide (20 ≤ op ∧ op ≤ 29)

/-- how many terms of a list so many expressions take, one behind the other -/
def eat : List (Int × Int) → Nat → Option Nat
  | _, 0 => some 0
  | [], _ + 1 => none
  | t :: ts, w + 1 => if arF t.1 < 0 then none else (eat ts (w + (arF t.1).toNat)).map (· + 1)
theorem eat_zero (ts : List (Int × Int)) : eat ts 0 = some 0 := by cases ts <;> rfl
theorem eat_nil (w : Nat) : eat [] (w + 1) = none := rfl
theorem eat_cons (t : Int × Int) (ts : List (Int × Int)) (w : Nat) : eat (t :: ts) (w + 1) = if arF t.1 < 0 then none else (eat ts (w + (arF t.1).toNat)).map (· + 1) := rfl
theorem eat_add : ∀ (ts : List (Int × Int)) (a b : Nat), eat ts (a + b) = (eat ts a).bind fun n => (eat (ts.drop n) b).map (n + ·)
  | ts, 0, b => by
    rw [eat_zero, Nat.zero_add]
    simp
  | [], a + 1, b => by
    rw [show a + 1 + b = (a + b) + 1 by omega, eat_nil, eat_nil]
    rfl
  | t :: ts, a + 1, b => by
    rw [show a + 1 + b = (a + b) + 1 by omega, eat_cons, eat_cons]
    split
    · rfl
    · rw [show a + b + (arF t.1).toNat = (a + (arF t.1).toNat) + b by omega, eat_add ts _ b]
      cases eat ts (a + (arF t.1).toNat) with
      | none => rfl
      | some n =>
        simp only [Option.bind_some, Option.map_some, List.drop_succ_cons, Option.map_map]
        congr 1
        funext x
        simp
        omega
theorem eat_le : ∀ {ts : List (Int × Int)} {w n : Nat}, eat ts w = some n → w ≤ n ∧ n ≤ ts.length
  | ts, 0, n, h => by
    rw [eat_zero] at h
    cases h
    omega
  | [], w + 1, n, h => by rw [eat_nil] at h; cases h
  | t :: ts, w + 1, n, h => by
    rw [eat_cons] at h
    split at h
    · cases h
    · cases hk : eat ts (w + (arF t.1).toNat) with
      | none => rw [hk] at h; cases h
      | some m =>
        rw [hk] at h
        have e : m + 1 = n := by simpa using h
        have := eat_le hk
        simp
        omega
theorem eat_part : ∀ {ts : List (Int × Int)} {w n : Nat} (us : List (Int × Int)), eat ts w = some n → eat (ts ++ us) w = some n
  | ts, 0, n, us, h => by
    rw [eat_zero] at h ⊢
    exact h
  | [], w + 1, n, us, h => by rw [eat_nil] at h; cases h
  | t :: ts, w + 1, n, us, h => by
    rw [eat_cons] at h
    rw [List.cons_append, eat_cons]
    split at h
    · cases h
    · rename_i hk
      rw [if_neg hk]
      cases hm : eat ts (w + (arF t.1).toNat) with
      | none => rw [hm] at h; cases h
      | some m =>
        rw [hm] at h
        rw [eat_part us hm]
        exact h
theorem eat_take : ∀ {ts : List (Int × Int)} {w n : Nat}, eat ts w = some n → eat (ts.take n) w = some n
  | ts, 0, n, h => by
    rw [eat_zero] at h ⊢
    exact h
  | [], w + 1, n, h => by rw [eat_nil] at h; cases h
  | t :: ts, w + 1, n, h => by
    rw [eat_cons] at h
    split at h
    · cases h
    · rename_i hk
      cases hm : eat ts (w + (arF t.1).toNat) with
      | none => rw [hm] at h; cases h
      | some m =>
        rw [hm] at h
        have e : m + 1 = n := by simpa using h
        subst e
        rw [List.take_succ_cons, eat_cons, if_neg hk, eat_take hm]
        rfl

/-- the place behind the expression that begins at a place; -1 if none does -/
def endF (xs : List (Int × Int)) (p : Int) : Int :=
  if 0 ≤ p ∧ p < xs.length then (match eat (xs.drop p.toNat) 1 with
    | some n => p + n
    | none => -1) else -1
theorem endF_out {xs : List (Int × Int)} {p : Int} (h : ¬ (0 ≤ p ∧ p < xs.length)) : endF xs p = -1 := by unfold endF; rw [if_neg h]
theorem endF_none {xs : List (Int × Int)} {p : Nat} (h : eat (xs.drop p) 1 = none) : endF xs p = -1 := by
  unfold endF
  split
  · rw [Int.toNat_natCast, h]
  · rfl
theorem endF_some {xs : List (Int × Int)} {p n : Nat} (h : eat (xs.drop p) 1 = some n) : endF xs p = (p + n : Nat) := by
  have hl := eat_le h
  rw [List.length_drop] at hl
  unfold endF
  rw [if_pos (by omega), Int.toNat_natCast, h]
  simp
theorem endF_le (xs : List (Int × Int)) (p : Int) : -1 ≤ endF xs p ∧ endF xs p ≤ xs.length := by
  unfold endF
  split
  · rename_i h
    split
    · rename_i n hn
      have hl := eat_le hn
      rw [List.length_drop] at hl
      omega
    · omega
  · omega
/-- what is known amid the count: i terms are read, w expressions are wanted -/
def Amid (xs : List (Int × Int)) (p i w : Nat) : Prop := p ≤ i ∧ i ≤ xs.length ∧ eat (xs.drop p) 1 = (eat (xs.drop i) (w + 1)).map (· + (i - p))
theorem Amid.start {xs : List (Int × Int)} {p : Nat} (h : p ≤ xs.length) : Amid xs p p 0 := ⟨Nat.le_refl _, h, by simp⟩
theorem drop_tm {xs : List (Int × Int)} {i : Nat} (h : i < xs.length) : xs.drop i = (toA xs i, wtA xs i) :: xs.drop (i + 1) := by
  simp [toA, wtA, h]
  exact List.drop_eq_getElem_cons h
theorem Amid.bad {xs : List (Int × Int)} {p i w : Nat} (h : Amid xs p i w) (hi : i < xs.length) (ha : arF (toA xs i) < 0) : endF xs p = -1 := by
  obtain ⟨h1, h2, h3⟩ := h
  rw [drop_tm hi, eat_cons, if_pos ha] at h3
  exact endF_none h3
theorem Amid.over {xs : List (Int × Int)} {p w : Nat} (h : Amid xs p xs.length w) : endF xs p = -1 := by
  obtain ⟨h1, h2, h3⟩ := h
  rw [List.drop_length, eat_nil] at h3
  exact endF_none h3
theorem Amid.found {xs : List (Int × Int)} {p i : Nat} (h : Amid xs p i 0) (hi : i < xs.length) (ha : arF (toA xs i) = 0) : endF xs p = (i + 1 : Nat) := by
  obtain ⟨h1, h2, h3⟩ := h
  rw [drop_tm hi, eat_cons, if_neg (by dsimp only; omega), show (0 : Nat) + (arF (toA xs i, wtA xs i).1).toNat = 0 by dsimp only; omega, eat_zero] at h3
  simp only [Option.map_some] at h3
  rw [endF_some h3]
  omega
theorem Amid.next {xs : List (Int × Int)} {p i w v : Nat} (h : Amid xs p i w) (hi : i < xs.length) (ha : 0 ≤ arF (toA xs i)) (hv : (v : Int) + 1 = w + arF (toA xs i)) : Amid xs p (i + 1) v := by
  obtain ⟨h1, h2, h3⟩ := h
  refine ⟨by omega, hi, ?_⟩
  rw [h3, drop_tm hi, eat_cons, if_neg (by dsimp only; omega), show w + (arF (toA xs i, wtA xs i).1).toNat = v + 1 by dsimp only; omega, Option.map_map]
  congr 1
  funext x
  simp
  omega

/-- whether a list is one expression -/
def oneB (xs : List (Int × Int)) : Bool := decide (0 < xs.length ∧ endF xs 0 = xs.length)
/-- the place of an operand, if there is one -/
def placeF (xs : List (Int × Int)) (p : Int) : Nat → Int
  | 0 => p + 1
  | k + 1 => endF xs (placeF xs p k)
def opdF (xs : List (Int × Int)) (p k : Int) : Int := if endF xs p < 0 ∨ k < 0 ∨ arF (toA xs p.toNat) ≤ k then -1 else placeF xs p k.toNat
theorem endF_in {xs : List (Int × Int)} {p : Int} (h : ¬ endF xs p < 0) : 0 ≤ p ∧ p < xs.length := by
  by_cases hp : 0 ≤ p ∧ p < xs.length
  · exact hp
  · rw [endF_out hp] at h
    omega
theorem placeF_le {xs : List (Int × Int)} {p : Int} (hp : 0 ≤ p ∧ p < xs.length) : ∀ k, -1 ≤ placeF xs p k ∧ placeF xs p k ≤ xs.length
  | 0 => by unfold placeF; omega
  | k + 1 => endF_le xs _
/-- whether an argument is permitted -/
def argB (t : Int × Int) (vars : Int) : Bool :=
  if t.1 = 1 then decide (0 ≤ t.2 ∧ t.2 ≤ 1073741824) else if t.1 = 5 ∨ t.1 = 12 then decide (0 ≤ t.2 ∧ t.2 < vars) else decide (t.2 = 0)
theorem terms_ext {xs ys : List (Int × Int)} (hl : xs.length = ys.length) (h : ∀ i, i < xs.length → toA xs i = toA ys i ∧ wtA xs i = wtA ys i) : xs = ys := by
  apply List.ext_getElem hl
  intro i h1 h2
  have := h i h1
  simp only [toA, wtA, List.getD, List.getElem?_eq_getElem h1, List.getElem?_eq_getElem h2, Option.getD_some] at this
  exact Prod.ext this.1 this.2
end Go.Proofs.YtokmehjofboflaaDoor
namespace Go.Proofs.YtokmehjofboflaaDoor
open Go.RowKit

end Go.Proofs.YtokmehjofboflaaDoor
namespace Go.Proofs.YtokmehjofboflaaDoor
open Go.RowKit

end Go.Proofs.YtokmehjofboflaaDoor
namespace Go.Proofs.YtokmehjofboflaaDoor
open Go.RowKit

end Go.Proofs.YtokmehjofboflaaDoor
namespace Go.Proofs.YtokmehjofboflaaDoor
open Go.RowKit Go.Deep

/-! ### The stack: its top comes first; an open term stands there with the operands that are still to come and whether it is an aggregate -/
def decF : List (Int × Bool) → List (Int × Bool)
  | [] => []
  | (l, o) :: r => (l - 1, o) :: r
def popD : List (Int × Bool) → List (Int × Bool)
  | [] => []
  | (l, o) :: r => if l - 1 = 0 then popD r else (l - 1, o) :: r
def popF : List (Int × Bool) → List (Int × Bool)
  | [] => []
  | (l, o) :: r => if l = 0 then popD r else (l, o) :: r
theorem decF_len (S : List (Int × Bool)) : (decF S).length = S.length := by cases S <;> rfl
theorem popF_decF (S : List (Int × Bool)) : popF (decF S) = popD S := by cases S <;> rfl
theorem popF_next {l : Int} {o : Bool} {r : List (Int × Bool)} (h : l = 0) : popF (decF r) = popF ((l, o) :: r) := by
  rw [popF_decF]
  simp [popF, h]
theorem popF_done {l : Int} {o : Bool} {r : List (Int × Bool)} (h : l ≠ 0) : popF ((l, o) :: r) = (l, o) :: r := by simp [popF, h]
/-- the aggregates among the open terms -/
def insF (S : List (Int × Bool)) : Nat := S.countP (·.2)
theorem insF_le (S : List (Int × Bool)) : insF S ≤ S.length := List.countP_le_length
def levG : List (Int × Int) → List (Int × Bool) → Nat → Nat → Nat × Nat
  | [], _, d, n => (d, n)
  | t :: ts, S, d, n => levG ts (popF ((arF t.1, aggF t.1) :: S)) (max d (S.length + 1)) (max n (insF ((arF t.1, aggF t.1) :: S)))
/-- Depth and Nest of a list that is one expression -/
def levF (xs : List (Int × Int)) : Nat × Nat := levG xs [] 0 0

def Low (b : Int) (S : List (Int × Bool)) : Prop := ∀ x ∈ S, -b ≤ x.1 ∧ x.1 ≤ 3
def LowB (b : Int) : List (Int × Bool) → Prop
  | [] => True
  | x :: r => (-b - 1 ≤ x.1 ∧ x.1 ≤ 3) ∧ Low b r
theorem Low.push {b : Int} {S : List (Int × Bool)} (h : Low b S) (hb : 0 ≤ b) (op : Int) (o : Bool) : LowB b ((arF op, o) :: S) := by
  have := arF_le op
  exact ⟨⟨by dsimp only; omega, by dsimp only; omega⟩, h⟩
theorem LowB.next {b : Int} {x : Int × Bool} {r : List (Int × Bool)} (h : LowB b (x :: r)) : LowB b (decF r) := by
  cases r with
  | nil => trivial
  | cons y r =>
    have h1 := h.2 y (by simp)
    exact ⟨⟨by dsimp only; omega, by dsimp only; omega⟩, fun z hz => h.2 z (by simp [hz])⟩
theorem LowB.low {b : Int} {S : List (Int × Bool)} (h : LowB b S) : Low (b + 1) S := by
  cases S with
  | nil => exact fun x hx => by cases hx
  | cons y r =>
    intro x hx
    rcases List.mem_cons.1 hx with rfl | hx
    · have := h.1
      omega
    · have := h.2 x hx
      omega

/-! ### In memory: two rows of the call's own -/
def lefts (S : List (Int × Bool)) : List Value := (S.map fun x => Value.int .i64 x.1).reverse
def opens (S : List (Int × Bool)) : List Value := (S.map fun x => Value.bool x.2).reverse
theorem lefts_cons (x : Int × Bool) (S : List (Int × Bool)) : lefts (x :: S) = lefts S ++ [.int .i64 x.1] := by simp [lefts]
theorem opens_cons (x : Int × Bool) (S : List (Int × Bool)) : opens (x :: S) = opens S ++ [.bool x.2] := by simp [opens]
theorem lefts_len (S : List (Int × Bool)) : (lefts S).length = S.length := by simp [lefts]
theorem opens_len (S : List (Int × Bool)) : (opens S).length = S.length := by simp [opens]
structure Stk (B : Nat) (w : World) (v1 v2 : Value) (S : List (Int × Bool)) : Prop where
  o1 : w.ownsRow B 3 1 v1 S.length (lefts S)
  o2 : w.ownsRow B 4 1 v2 S.length (opens S)
  ap : v1.ownBlock = none ∨ v1.ownBlock ≠ v2.ownBlock
theorem Stk.nil (B : Nat) (w : World) : Stk B w (.slice none 0 0) (.slice none 0 0) [] := ⟨World.ownsRow_nil _ _ _ _, World.ownsRow_nil _ _ _ _, .inl rfl⟩
theorem row_shape {B : Nat} {w : World} {t : TypeId} {v : Value} {n : Nat} {xs : List Value} (h : w.ownsRow B t 1 v n xs) : ∃ a c, v = .slice a n c ∧ (0 < n → ∃ g, a = some ⟨g, 0, none⟩ ∧ B ≤ g ∧ g < w.heap.size) := by
  have hlt := World.ownsRow.lt h
  rcases h.2 with ⟨rfl, rfl⟩ | ⟨g, cap, cur, rfl, hg, _⟩
  · exact ⟨none, 0, rfl, fun h => absurd h (by omega)⟩
  · exact ⟨some ⟨g, 0, none⟩, cap, rfl, fun _ => ⟨g, rfl, hlt g rfl⟩⟩
theorem row_cut {B : Nat} {w : World} {t : TypeId} {g n cap : Nat} {x : Value} {xs : List Value} (h : w.ownsRow B t 1 (.slice (some ⟨g, 0, none⟩) (n + 1) cap) (n + 1) (xs ++ [x])) : w.ownsRow B t 1 (.slice (some ⟨g, 0, none⟩) n cap) n xs := by
  obtain ⟨hl, h⟩ := h
  have hxn : xs.length = n := by simpa using hl
  refine ⟨by simpa using hxn, ?_⟩
  rcases h with ⟨h, _⟩ | ⟨g', cap', cur, h, hg, hh, hn, hc, hs, ht⟩
  · cases h
  · injection h with e1 e2 e3
    injection e1 with e1
    injection e1 with e1
    subst e1 e3
    refine .inr ⟨g, cap, cur, rfl, hg, hh, by omega, hc, hs, ?_⟩
    have h2 := congrArg (List.take n) ht
    rw [List.take_take, Nat.mul_one, show min n (n + 1) = n by omega, List.take_append_of_le_length (by omega), List.take_of_length_le (l := xs) (by omega)] at h2
    rw [Nat.mul_one]
    exact h2
theorem Stk.far {B : Nat} {w w' : World} {v1 v2 : Value} {S : List (Int × Bool)} (h : Stk B w v1 v2 S) (hg : w.grownBy w' none) : Stk B w' v1 v2 S :=
  ⟨World.ownsRow.kept h.o1 hg (by cases v1.ownBlock <;> simp), World.ownsRow.kept h.o2 hg (by cases v2.ownBlock <;> simp), h.ap⟩
theorem Stk.drew {B : Nat} {w : World} {v1 v2 : Value} {S : List (Int × Bool)} (h : Stk B w v1 v2 S) (n : Nat) : Stk B (w.drewN n) v1 v2 S := ⟨h.o1, h.o2, h.ap⟩
theorem Stk.shape {B : Nat} {w : World} {v1 v2 : Value} {S : List (Int × Bool)} (h : Stk B w v1 v2 S) : ∃ a1 c1 a2 c2, v1 = .slice a1 S.length c1 ∧ v2 = .slice a2 S.length c2 := by
  obtain ⟨a1, c1, e1, _⟩ := row_shape h.o1
  obtain ⟨a2, c2, e2, _⟩ := row_shape h.o2
  exact ⟨a1, c1, a2, c2, e1, e2⟩
theorem Stk.block {B : Nat} {w : World} {a1 a2 : Option Addr} {n c1 c2 : Nat} {S : List (Int × Bool)} (h : Stk B w (.slice a1 n c1) (.slice a2 n c2) S) (h0 : 0 < S.length) : ∃ g1 g2, a1 = some ⟨g1, 0, none⟩ ∧ a2 = some ⟨g2, 0, none⟩ ∧ g1 ≠ g2 ∧ B ≤ g1 ∧ B ≤ g2 ∧ g1 < w.heap.size ∧ g2 < w.heap.size := by
  obtain ⟨b1, d1, e1, k1⟩ := row_shape h.o1
  obtain ⟨b2, d2, e2, k2⟩ := row_shape h.o2
  obtain ⟨g1, rfl, p1, q1⟩ := k1 h0
  obtain ⟨g2, rfl, p2, q2⟩ := k2 h0
  injection e1 with e1 _ _
  injection e2 with e2 _ _
  subst e1 e2
  refine ⟨g1, g2, rfl, rfl, fun e => ?_, p1, p2, q1, q2⟩
  rcases h.ap with h | h
  · simp [Value.ownBlock] at h
  · exact h (by rw [e]; rfl)
/-- the numbers of operands to come are stored in one of the rows, at the top -/
theorem Stk.top {B : Nat} {w : World} {g1 g2 n c1 c2 : Nat} {l : Int} {o : Bool} {r : List (Int × Bool)} (h : Stk B w (.slice (some ⟨g1, 0, none⟩) n c1) (.slice (some ⟨g2, 0, none⟩) n c2) ((l, o) :: r)) (hn : n = r.length + 1) :
    w.cell? ⟨g1, r.length, none⟩ = some (.int .i64 l) ∧ w.frozen? ⟨g1, r.length, none⟩ = false := by
  have h1 := h.o1
  subst hn
  have hc := World.ownsRow.cellAt h1 r.length (by simp)
  rw [lefts_cons, List.getElem?_append_right (by rw [lefts_len]; omega), lefts_len] at hc
  exact ⟨by rw [hc]; simp, World.ownsRow.frozenAt h1 _⟩
theorem Stk.openAt {B : Nat} {w : World} {g1 g2 n c1 c2 : Nat} {S : List (Int × Bool)} (h : Stk B w (.slice (some ⟨g1, 0, none⟩) n c1) (.slice (some ⟨g2, 0, none⟩) n c2) S) (hn : n = S.length) {k : Nat} (hk : k < S.length) :
    ∃ o, w.cell? ⟨g2, k, none⟩ = some (.bool o) ∧ (S.reverse.take (k + 1)).countP (·.2) = (S.reverse.take k).countP (·.2) + (if o then 1 else 0) := by
  have h1 := h.o2
  subst hn
  have hc := World.ownsRow.cellAt h1 k (by omega)
  have hkr : k < S.reverse.length := by simpa using hk
  refine ⟨(S.reverse[k]).2, ?_, ?_⟩
  · rw [hc, opens, ← List.map_reverse, List.getElem?_map, List.getElem?_eq_getElem hkr]
    rfl
  · rw [List.take_add_one, List.getElem?_eq_getElem hkr, List.countP_append]
    simp [List.countP_cons]
theorem Stk.pop {B : Nat} {w : World} {g1 g2 n c1 c2 : Nat} {x : Int × Bool} {r : List (Int × Bool)} (h : Stk B w (.slice (some ⟨g1, 0, none⟩) n c1) (.slice (some ⟨g2, 0, none⟩) n c2) (x :: r)) (hn : n = r.length + 1) :
    Stk B w (.slice (some ⟨g1, 0, none⟩) r.length c1) (.slice (some ⟨g2, 0, none⟩) r.length c2) r := by
  subst hn
  have h1 := h.o1
  have h2 := h.o2
  rw [lefts_cons] at h1
  rw [opens_cons] at h2
  refine ⟨row_cut h1, row_cut h2, ?_⟩
  have := h.ap
  simpa [Value.ownBlock] using this
theorem Stk.dec {B : Nat} {w : World} {g1 g2 n c1 c2 : Nat} {l : Int} {o : Bool} {r : List (Int × Bool)} (h : Stk B w (.slice (some ⟨g1, 0, none⟩) n c1) (.slice (some ⟨g2, 0, none⟩) n c2) ((l, o) :: r)) (hn : n = r.length + 1) :
    Stk B (w.setCell ⟨g1, r.length, none⟩ (.int .i64 (l - 1))) (.slice (some ⟨g1, 0, none⟩) n c1) (.slice (some ⟨g2, 0, none⟩) n c2) ((l - 1, o) :: r) := by
  have h1 := h.o1
  subst hn
  obtain ⟨k1, k2⟩ := World.ownsRow.stored h1 r.length (.int .i64 (l - 1))
  have hs : (lefts ((l, o) :: r)).set r.length (.int .i64 (l - 1)) = lefts ((l - 1, o) :: r) := by
    rw [lefts_cons, lefts_cons, List.set_append_right _ _ (by rw [lefts_len]; omega), lefts_len]
    simp
  rw [hs] at k1
  refine ⟨k1, World.ownsRow.kept h.o2 k2 ?_, h.ap⟩
  rcases h.ap with h | h
  · simp [Value.ownBlock] at h
  · exact .inr fun e => h (by rw [e]; rfl)
theorem row_cap {B : Nat} {w : World} {t : TypeId} {a : Option Addr} {n c : Nat} {xs : List Value} (h : w.ownsRow B t 1 (.slice a n c) n xs) : n ≤ c ∧ c ≤ maxLen := by
  rcases h.2 with ⟨e, rfl⟩ | ⟨g, cap, cur, e, _, _, h1, h2, _⟩
  · exact ⟨Nat.zero_le _, by injection e with _ _ e; omega⟩
  · injection e with _ _ e
    omega
theorem infoInt : (Tryd.prog.info? 3).map (fun i => (i.zero, i.size, i.bytes)) = some (some (.int .i64 0), 1, 8) := by kernel_rfl
theorem infoBool : (Tryd.prog.info? 4).map (fun i => (i.zero, i.size, i.bytes)) = some (some (.bool false), 1, 1) := by kernel_rfl
/-- a term is on the one row, not yet on the other -/
structure Mid (B : Nat) (w : World) (v1 v2 : Value) (l : Int) (S : List (Int × Bool)) : Prop where
  o1 : w.ownsRow B 3 1 v1 (S.length + 1) (lefts S ++ [.int .i64 l])
  o2 : w.ownsRow B 4 1 v2 S.length (opens S)
  ap : v1.ownBlock = none ∨ v1.ownBlock ≠ v2.ownBlock
theorem Mid.far {B : Nat} {w w' : World} {v1 v2 : Value} {l : Int} {S : List (Int × Bool)} (h : Mid B w v1 v2 l S) (hg : w.grownBy w' none) : Mid B w' v1 v2 l S :=
  ⟨World.ownsRow.kept h.o1 hg (by cases v1.ownBlock <;> simp), World.ownsRow.kept h.o2 hg (by cases v2.ownBlock <;> simp), h.ap⟩
theorem Stk.app1 {B : Nat} {w w' : World} {v1 v2 : Value} {l : Int} {S : List (Int × Bool)} {g cap : Nat} (h : Stk B w v1 v2 S) (ho : w'.ownsRow B 3 1 (.slice (some ⟨g, 0, none⟩) (S.length + 1) cap) (S.length + 1) (lefts S ++ [.int .i64 l]))
    (hg : w.grownBy w' v1.ownBlock) (hat : v1.ownBlock = some g ∨ g = w.heap.size) : Mid B w' (.slice (some ⟨g, 0, none⟩) (S.length + 1) cap) v2 l S := by
  refine ⟨ho, World.ownsRow.kept h.o2 hg ?_, ?_⟩
  · rcases h.ap with h | h
    · rw [h]; cases v2.ownBlock <;> simp
    · exact .inr (Ne.symm h)
  · refine .inr fun e => ?_
    have e2 : v2.ownBlock = some g := by rw [← e]; rfl
    rcases hat with h1 | h1
    · rcases h.ap with h | h
      · rw [h1] at h; cases h
      · exact h (by rw [h1, e2])
    · have := (World.ownsRow.lt h.o2 g e2).2
      omega
theorem Mid.app2 {B : Nat} {w w' : World} {v1 v2 : Value} {l : Int} {o : Bool} {S : List (Int × Bool)} {g cap : Nat} (h : Mid B w v1 v2 l S) (ho : w'.ownsRow B 4 1 (.slice (some ⟨g, 0, none⟩) (S.length + 1) cap) (S.length + 1) (opens S ++ [.bool o]))
    (hg : w.grownBy w' v2.ownBlock) (hat : v2.ownBlock = some g ∨ g = w.heap.size) : Stk B w' v1 (.slice (some ⟨g, 0, none⟩) (S.length + 1) cap) ((l, o) :: S) := by
  refine ⟨?_, ?_, ?_⟩
  · rw [lefts_cons]
    refine World.ownsRow.kept h.o1 hg ?_
    rcases h.ap with h | h
    · exact .inl h
    · exact .inr h
  · rw [opens_cons]
    exact ho
  · cases h1 : v1.ownBlock with
    | none => exact .inl rfl
    | some k =>
      refine .inr fun e => ?_
      have e2 : k = g := by injection e
      subst e2
      rcases hat with h2 | h2
      · rcases h.ap with h | h
        · rw [h1] at h; cases h
        · exact h (by rw [h1, h2])
      · have := (World.ownsRow.lt h.o1 k h1).2
        omega
end Go.Proofs.YtokmehjofboflaaDoor
namespace Go.Proofs.YtokmehjofboflaaDoor
open Go

section
variable {P : Program} {ops : Array Oper} {Q : Exit → Act → World → Prop} {md : Region.Mode} {S : World → Prop} {T : List Nat}

/-- none of T has come up -/
def Calm (T : List Nat) (l : Array Bool) : Prop := ∀ t ∈ T, l.getD t true = false
/-- whatever order is picked from here on; S behind each operation until one of T comes up -/
def AnyK (P : Program) (md : Region.Mode) (ops : Array Oper) (Q : Exit → Act → World → Prop) (S : World → Prop) (T : List Nat) : Nat → Array Bool → Act → World → Prop
  | 0, l, a, w => Region.ready md ops l = [] ∧ Q .normal a w
  | n + 1, l, a, w => (Region.ready md ops l = [] → Q .normal a w) ∧
    ∀ i ∈ Region.ready md ops l, wpOp P ops Q i (fun a' w' => (Calm T (l.setIfInBounds i true) → S w') ∧ AnyK P md ops Q S T n (l.setIfInBounds i true) a' w') a w
theorem AnyK.any : ∀ (n : Nat) (l : Array Bool) (a : Act) (w : World), AnyK P md ops Q S T n l a w → wpAny P md ops Q n l a w
  | 0, _, _, _, h => h
  | n + 1, _, _, _, h => ⟨h.1, fun i hi => wpOp_mono (fun a' w' k => AnyK.any n _ a' w' k.2) (h.2 i hi)⟩

theorem calm_set {l : Array Bool} {i : Nat} (hi : i ∉ T) : Calm T (l.setIfInBounds i true) ↔ Calm T l := by
  constructor
  all_goals
    intro h t ht
    have := h t ht
    rw [getD_set_ne true (fun e => hi (by rw [e]; exact ht))] at *
    exact this
theorem not_ready {l : Array Bool} {i t : Nat} (hi : i ∈ Region.ready md ops l) (ht : ∃ o, ops[t]? = some o ∧ ∃ e ∈ o.after, Region.binds md e = true ∧ e.on = i) : t ∉ Region.ready md ops l := by
  intro h
  obtain ⟨_, o, ho, hall⟩ := mem_ready.1 h
  obtain ⟨o', ho', e, he, hb, heq⟩ := ht
  rw [ho] at ho'
  obtain rfl : o = o' := Option.some.inj ho'
  have h1 := hall e he hb
  rw [heq] at h1
  have h0 := (mem_ready.1 hi).1
  rcases Nat.lt_or_ge i l.size with h' | h'
  · simp [h'] at h0 h1; rw [h0] at h1; cases h1
  · simp [Array.getElem?_eq_none h'] at h1
/-- the way of both laws: F is what makes the operation yield its value, at a state and a world -/
theorem first_free {i : Nat} {l : Array Bool} (hi : i ∈ Region.ready md ops l) {j : Nat} {oj : Oper} (hoj : ops[j]? = some oj) (hj : j ∈ Region.ready md ops l) : ∀ e ∈ oj.after, Region.binds md e = true → e.on ≠ i := by
  intro e he hb heq
  exact not_ready hi ⟨oj, hoj, e, he, hb, heq⟩ hj
theorem free_set {i j : Nat} {oi : Oper} {l : Array Bool} (hfree : ∀ k ok, ops[k]? = some ok → k ≠ i → l.getD k true = false → (∀ e ∈ ok.after, Region.binds md e = true → e.on ≠ i) → oi.apart ops ok = true) (hjun : l.getD j true = false) :
    ∀ k ok, ops[k]? = some ok → k ≠ i → (l.setIfInBounds j true).getD k true = false → (∀ e ∈ ok.after, Region.binds md e = true → e.on ≠ i) → oi.apart ops ok = true := fun k ok hk hki hun hno => by
  refine hfree k ok hk hki ?_ hno
  by_cases hjk : j = k
  · subst hjk; exact hjun
  · rwa [getD_set_ne true hjk] at hun

/-- an operation that yields its value in whatever world -/
theorem AnyK.pure {i : Nat} {oi : Oper} {v : Value} (hi : ops[i]? = some oi) (hs : Region.noSelect ops = true) (hQ : ∀ c a w, Q (.panic c) (a.put oi.dst v) w → Q (.panic c) a w) (hiT : i ∉ T) :
    ∀ (n : Nat) (l : Array Bool) (a : Act) (w : World), (∀ k ok, ops[k]? = some ok → k ≠ i → l.getD k true = false → (∀ e ∈ ok.after, Region.binds md e = true → e.on ≠ i) → oi.apart ops ok = true) →
      i ∈ Region.ready md ops l → Yields P ops oi v a → (Calm T l → S w) →
      AnyK P md ops Q S T n (l.setIfInBounds i true) (a.put oi.dst v) w → AnyK P md ops Q S T (n + 1) l a w := by
  have hsel := Region.noSelect_spec hs
  intro n
  induction n with
  | zero =>
    intro l a w _ hr hy hc H
    refine ⟨fun h => (by rw [h] at hr; cases hr), fun j hj => ?_⟩
    by_cases hji : j = i
    · subst hji; exact hy.wpOp hi ⟨fun h => hc ((calm_set hiT).1 h), H⟩
    · have := ready_mono hj hji
      rw [H.1] at this
      cases this
  | succ n ih =>
    intro l a w hfree hr hy hc H
    refine ⟨fun h => (by rw [h] at hr; cases hr), fun j hj => ?_⟩
    by_cases hji : j = i
    · subst hji; exact hy.wpOp hi ⟨fun h => hc ((calm_set hiT).1 h), H⟩
    · obtain ⟨hjun, oj, hoj, _⟩ := mem_ready.1 hj
      have h2 := wpOp_put hoj (hfree j oj hoj hji hjun (first_free hr hoj hj)) (fun cs b => hsel i oi cs b hi) (fun cs b => hsel j oj cs b hoj) hQ hy (H.2 j (ready_mono hj hji))
      refine wpOp_mono (fun a' w' h3 => ?_) h2
      have hS : Calm T (l.setIfInBounds j true) → S w' := fun h => h3.2.1 (by rw [Array.setIfInBounds_comm _ _ (Ne.symm hji), calm_set hiT]; exact h)
      refine ⟨hS, ih (l.setIfInBounds j true) a' w' (free_set hfree hjun) (ready_mono hr (Ne.symm hji)) h3.1 hS ?_⟩
      rw [Array.setIfInBounds_comm _ _ hji]
      exact h3.2.2
/-- an operation that yields its value in every world that meets S, for which all of T wait -/
theorem AnyK.load {i : Nat} {oi : Oper} {v : Value} (hi : ops[i]? = some oi) (hs : Region.noSelect ops = true) (hQ : ∀ c a w, Q (.panic c) (a.put oi.dst v) w → Q (.panic c) a w) (hiT : i ∉ T)
    (hT : ∀ t ∈ T, ∃ o, ops[t]? = some o ∧ ∃ e ∈ o.after, Region.binds md e = true ∧ e.on = i) :
    ∀ (n : Nat) (l : Array Bool) (a : Act) (w : World), (∀ k ok, ops[k]? = some ok → k ≠ i → l.getD k true = false → (∀ e ∈ ok.after, Region.binds md e = true → e.on ≠ i) → oi.apart ops ok = true) →
      i ∈ Region.ready md ops l → YieldsIf P ops S oi v a → Calm T l → S w →
      AnyK P md ops Q S T n (l.setIfInBounds i true) (a.put oi.dst v) w → AnyK P md ops Q S T (n + 1) l a w := by
  have hsel := Region.noSelect_spec hs
  intro n
  induction n with
  | zero =>
    intro l a w _ hr hy _ hS H
    refine ⟨fun h => (by rw [h] at hr; cases hr), fun j hj => ?_⟩
    by_cases hji : j = i
    · subst hji; exact hy.wpOp hi hS ⟨fun _ => hS, H⟩
    · have := ready_mono hj hji
      rw [H.1] at this
      cases this
  | succ n ih =>
    intro l a w hfree hr hy hc hS H
    refine ⟨fun h => (by rw [h] at hr; cases hr), fun j hj => ?_⟩
    by_cases hji : j = i
    · subst hji; exact hy.wpOp hi hS ⟨fun _ => hS, H⟩
    · obtain ⟨hjun, oj, hoj, _⟩ := mem_ready.1 hj
      have hjT : j ∉ T := fun h => not_ready hr (hT j h) hj
      have h2 := wpOp_putIf hoj (hfree j oj hoj hji hjun (first_free hr hoj hj)) (fun cs b => hsel i oi cs b hi) (fun cs b => hsel j oj cs b hoj) hQ hy (H.2 j (ready_mono hj hji))
      refine wpOp_mono (fun a' w' h3 => ?_) h2
      have hcj : Calm T (l.setIfInBounds j true) := (calm_set hjT).2 hc
      have hS' : S w' := h3.2.1 ((calm_set hjT).2 ((calm_set hiT).2 hc))
      refine ⟨fun _ => hS', ih (l.setIfInBounds j true) a' w' (free_set hfree hjun) (ready_mono hr (Ne.symm hji)) h3.1 hcj hS' ?_⟩
      rw [Array.setIfInBounds_comm _ _ hji]
      exact h3.2.2

/-! ### The moves of a walk -/
/-- no operation of T has come up, as a Bool -/
def calmB (T : List Nat) (l : Array Bool) : Bool := T.all fun t => !l.getD t true
theorem calm_of {l : Array Bool} (h : calmB T l = true) : Calm T l := fun t ht => by
  have := List.all_eq_true.1 h t ht
  simpa using this
theorem calm_not {l : Array Bool} (h : calmB T l = false) : ¬ Calm T l := fun k => by
  have : calmB T l = true := List.all_eq_true.2 fun t ht => by rw [k t ht]; rfl
  rw [this] at h; cases h
def waitsB (md : Region.Mode) (ops : Array Oper) (T : List Nat) (i : Nat) : Bool := T.all fun t => match ops[t]? with
  | some o => o.after.any fun e => Region.binds md e && e.on == i
  | none => false
theorem waits_of {i : Nat} (h : waitsB md ops T i = true) : ∀ t ∈ T, ∃ o, ops[t]? = some o ∧ ∃ e ∈ o.after, Region.binds md e = true ∧ e.on = i := fun t ht => by
  have h1 := List.all_eq_true.1 h t ht
  cases ho : ops[t]? with
  | none => rw [ho] at h1; cases h1
  | some o =>
    rw [ho] at h1
    obtain ⟨e, he, hb⟩ := Array.any_eq_true'.1 h1
    simp only [Bool.and_eq_true, beq_iff_eq] at hb
    exact ⟨o, rfl, e, he, hb.1, hb.2⟩
theorem keep_start {id : Nat} {a : Act} {w : World} (S : World → Prop) (T : List Nat) (hm : P.follows .mixedOrders = true)
    (h : AnyK P .any ops Q S T ops.size (Array.replicate ops.size false) a w.drew) : (Code.region id ops true).wp P Q a w :=
  wp_region_any hm (AnyK.any _ _ _ _ h)
theorem keep_pure (i : Nat) {oi : Oper} {v : Value} {n : Nat} {l : Array Bool} {a : Act} {w : World} (hi : ops[i]? = some oi) (hs : Region.noSelect ops = true) (hf : Region.free md ops l i = true) (hr : (Region.ready md ops l).contains i = true) (hiT : T.contains i = false)
    (hQ : ∀ c a w, Q (.panic c) (a.put oi.dst v) w → Q (.panic c) a w) (hy : Yields P ops oi v a) (hc : calmB T l = false ∨ S w)
    (h : AnyK P md ops Q S T n (l.setIfInBounds i true) (a.put oi.dst v) w) : AnyK P md ops Q S T (n + 1) l a w :=
  AnyK.pure hi hs hQ (by simpa using hiT) n l a w (Region.free_spec hi hf) (by simpa using hr) hy (fun k => hc.elim (fun e => absurd k (calm_not e)) id) h
theorem keep_load (i : Nat) {oi : Oper} {v : Value} {n : Nat} {l : Array Bool} {a : Act} {w : World} (hi : ops[i]? = some oi) (hs : Region.noSelect ops = true) (hf : Region.free md ops l i = true) (hr : (Region.ready md ops l).contains i = true) (hiT : T.contains i = false) (hT : waitsB md ops T i = true) (hc : calmB T l = true)
    (hQ : ∀ c a w, Q (.panic c) (a.put oi.dst v) w → Q (.panic c) a w) (hy : YieldsIf P ops S oi v a) (hS : S w)
    (h : AnyK P md ops Q S T n (l.setIfInBounds i true) (a.put oi.dst v) w) : AnyK P md ops Q S T (n + 1) l a w :=
  AnyK.load hi hs hQ (by simpa using hiT) (waits_of hT) n l a w (Region.free_spec hi hf) (by simpa using hr) hy (calm_of hc) hS h
theorem keep_done {l : Array Bool} {a : Act} {w : World} {n : Nat} (hr : Region.ready md ops l = []) (h : Q .normal a w) : AnyK P md ops Q S T n l a w := by
  cases n with
  | zero => exact ⟨hr, h⟩
  | succ n => exact ⟨fun _ => h, by rw [hr]; simp⟩
theorem keep_op {i : Nat} {o : Oper} {n : Nat} {l : Array Bool} {a : Act} {w : World} (ho : ops[i]? = some o)
    (h : ∀ K : Act → World → Prop, (∀ a' w', (Calm T (l.setIfInBounds i true) → S w') → AnyK P md ops Q S T n (l.setIfInBounds i true) a' w' → K a' w') → if Region.wanted o (yielded ops a.tmps) = true then Oper.wp P o a w K Q else K (a.put o.dst undef) w) :
    wpOp P ops Q i (fun a' w' => (Calm T (l.setIfInBounds i true) → S w') ∧ AnyK P md ops Q S T n (l.setIfInBounds i true) a' w') a w := by
  have h1 := h (fun a' w' => (Calm T (l.setIfInBounds i true) → S w') ∧ AnyK P md ops Q S T n (l.setIfInBounds i true) a' w') (fun a' w' hS hA => ⟨hS, hA⟩)
  unfold wpOp
  simp only [ho]
  split
  · rename_i hw
    rw [if_pos hw] at h1
    exact .inl h1
  · rename_i hw
    rw [if_neg hw] at h1
    exact h1
/-- only number i may come up -/
theorem keep_one (i : Nat) {o : Oper} {n : Nat} {l : Array Bool} {a : Act} {w : World} (hr : Region.ready md ops l = [i]) (ho : ops[i]? = some o)
    (h : ∀ K : Act → World → Prop, (∀ a' w', (Calm T (l.setIfInBounds i true) → S w') → AnyK P md ops Q S T n (l.setIfInBounds i true) a' w' → K a' w') → if Region.wanted o (yielded ops a.tmps) = true then Oper.wp P o a w K Q else K (a.put o.dst undef) w) : AnyK P md ops Q S T (n + 1) l a w := by
  refine ⟨fun e => ?_, fun j hj => ?_⟩
  · rw [hr] at e; cases e
  · rw [hr] at hj
    obtain rfl : j = i := by simpa using hj
    exact keep_op ho h
/-- number i or number j may come up -/
theorem keep_two (i j : Nat) {o o' : Oper} {n : Nat} {l : Array Bool} {a : Act} {w : World} (hr : Region.ready md ops l = [i, j]) (ho : ops[i]? = some o) (ho' : ops[j]? = some o')
    (h : ∀ K : Act → World → Prop, (∀ a' w', (Calm T (l.setIfInBounds i true) → S w') → AnyK P md ops Q S T n (l.setIfInBounds i true) a' w' → K a' w') → if Region.wanted o (yielded ops a.tmps) = true then Oper.wp P o a w K Q else K (a.put o.dst undef) w)
    (h' : ∀ K : Act → World → Prop, (∀ a' w', (Calm T (l.setIfInBounds j true) → S w') → AnyK P md ops Q S T n (l.setIfInBounds j true) a' w' → K a' w') → if Region.wanted o' (yielded ops a.tmps) = true then Oper.wp P o' a w K Q else K (a.put o'.dst undef) w) : AnyK P md ops Q S T (n + 1) l a w := by
  refine ⟨fun e => ?_, fun k hk => ?_⟩
  · rw [hr] at e; cases e
  · rw [hr] at hk
    have : k = i ∨ k = j := by simpa using hk
    rcases this with rfl | rfl
    · exact keep_op ho h
    · exact keep_op ho' h'
end

/-! ### The moves of a walk -/
end Go.Proofs.YtokmehjofboflaaDoor
namespace Go.Proofs.YtokmehjofboflaaDoor
open Go.RowKit Go.Deep

def lenV : Value → Nat
  | .slice _ l _ => l
  | _ => 0
set_option linter.unusedVariables false
set_option linter.unusedSimpArgs false
end Go.Proofs.YtokmehjofboflaaDoor
namespace Go.Proofs.YtokmehjofboflaaDoor
open Go.RowKit

def depF (xs : List (Int × Int)) : Int := if oneB xs = true then ((levF xs).1 : Int) else 0
def nesF (xs : List (Int × Int)) : Int := if oneB xs = true then ((levF xs).2 : Int) else 0
def validE (xs : List (Int × Int)) (vars : Int) : Bool := decide (xs.length ≤ 200) && oneB xs && decide (depF xs ≤ 24) && decide (nesF xs ≤ 2) && xs.all fun t => argB t vars

theorem all_upto {xs : List (Int × Int)} {p : Int × Int → Bool} (h : ∀ i, i < xs.length → p (toA xs i, wtA xs i) = true) : xs.all p = true := by
  rw [List.all_eq_true]
  intro x hx
  obtain ⟨i, hi, rfl⟩ := List.mem_iff_getElem.1 hx
  have := h i hi
  simpa [toA, wtA, hi] using this
theorem not_all {xs : List (Int × Int)} {p : Int × Int → Bool} {i : Nat} (hi : i < xs.length) (h : p (toA xs i, wtA xs i) = false) : xs.all p = false := by
  rw [Bool.eq_false_iff]
  intro h2
  rw [List.all_eq_true] at h2
  have := h2 xs[i] (List.getElem_mem hi)
  simp [toA, wtA, hi] at h
  rw [h] at this
  cases this

end Go.Proofs.YtokmehjofboflaaDoor
