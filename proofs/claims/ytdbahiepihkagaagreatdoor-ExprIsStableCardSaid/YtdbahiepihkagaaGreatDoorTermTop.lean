/- Expressions that are read from the last term to the first one: the stack of what has been found. No program in it. -/
import Derived.Test.YtdbahiepihkagaaGreatDoorTermP1
import Derived.Deep.AppendLies
import Derived.Deep.RegionLaw
import Derived.Laws.OwnMore
namespace Go.Proofs.YtdbahiepihkagaaGreatDoor
open Go.RowKit Go.Deep

/-! ### The stack: its top comes first; an open term stands there with the operands that are still to come and whether it is an aggregate -/
def decF : List (Int × Bool) → List (Int × Bool)
  | [] => []
  | (l, o) :: r => (l - 1, o) :: r
def popD : List (Int × Bool) → List (Int × Bool)
  | [] => []
  | (l, o) :: r => if l - 1 = 0 then popD r else (l - 1, o) :: r
def popF : List (Int × Bool) → List (Int × Bool)
  | [] => []
  | (l, o) :: r => if l = 0 then popD r else (l, o) :: r
theorem decF_len (S : List (Int × Bool)) : (decF S).length = S.length := by cases S <;> rfl
theorem popF_decF (S : List (Int × Bool)) : popF (decF S) = popD S := by cases S <;> rfl
theorem popF_next {l : Int} {o : Bool} {r : List (Int × Bool)} (h : l = 0) : popF (decF r) = popF ((l, o) :: r) := by
  rw [popF_decF]
  simp [popF, h]
theorem popF_done {l : Int} {o : Bool} {r : List (Int × Bool)} (h : l ≠ 0) : popF ((l, o) :: r) = (l, o) :: r := by simp [popF, h]
/-- the aggregates among the open terms -/
def insF (S : List (Int × Bool)) : Nat := S.countP (·.2)
theorem insF_le (S : List (Int × Bool)) : insF S ≤ S.length := List.countP_le_length
def levG : List (Int × Int) → List (Int × Bool) → Nat → Nat → Nat × Nat
  | [], _, d, n => (d, n)
  | t :: ts, S, d, n => levG ts (popF ((arF t.1, aggF t.1) :: S)) (max d (S.length + 1)) (max n (insF ((arF t.1, aggF t.1) :: S)))
/-- Depth and Nest of a list that is one expression -/
def levF (xs : List (Int × Int)) : Nat × Nat := levG xs [] 0 0

def Low (b : Int) (S : List (Int × Bool)) : Prop := ∀ x ∈ S, -b ≤ x.1 ∧ x.1 ≤ 3
def LowB (b : Int) : List (Int × Bool) → Prop
  | [] => True
  | x :: r => (-b - 1 ≤ x.1 ∧ x.1 ≤ 3) ∧ Low b r
theorem Low.push {b : Int} {S : List (Int × Bool)} (h : Low b S) (hb : 0 ≤ b) (op : Int) (o : Bool) : LowB b ((arF op, o) :: S) := by
  have := arF_le op
  exact ⟨⟨by dsimp only; omega, by dsimp only; omega⟩, h⟩
theorem LowB.next {b : Int} {x : Int × Bool} {r : List (Int × Bool)} (h : LowB b (x :: r)) : LowB b (decF r) := by
  cases r with
  | nil => trivial
  | cons y r =>
    have h1 := h.2 y (by simp)
    exact ⟨⟨by dsimp only; omega, by dsimp only; omega⟩, fun z hz => h.2 z (by simp [hz])⟩
theorem LowB.low {b : Int} {S : List (Int × Bool)} (h : LowB b S) : Low (b + 1) S := by
  cases S with
  | nil => exact fun x hx => by cases hx
  | cons y r =>
    intro x hx
    rcases List.mem_cons.1 hx with rfl | hx
    · have := h.1
      omega
    · have := h.2 x hx
      omega

/-! ### In memory: two rows of the call's own -/
def lefts (S : List (Int × Bool)) : List Value := (S.map fun x => Value.int .i64 x.1).reverse
def opens (S : List (Int × Bool)) : List Value := (S.map fun x => Value.bool x.2).reverse
theorem lefts_cons (x : Int × Bool) (S : List (Int × Bool)) : lefts (x :: S) = lefts S ++ [.int .i64 x.1] := by simp [lefts]
theorem opens_cons (x : Int × Bool) (S : List (Int × Bool)) : opens (x :: S) = opens S ++ [.bool x.2] := by simp [opens]
theorem lefts_len (S : List (Int × Bool)) : (lefts S).length = S.length := by simp [lefts]
theorem opens_len (S : List (Int × Bool)) : (opens S).length = S.length := by simp [opens]
structure Stk (B : Nat) (w : World) (v1 v2 : Value) (S : List (Int × Bool)) : Prop where
  o1 : w.ownsRow B 3 1 v1 S.length (lefts S)
  o2 : w.ownsRow B 4 1 v2 S.length (opens S)
  ap : v1.ownBlock = none ∨ v1.ownBlock ≠ v2.ownBlock
theorem Stk.nil (B : Nat) (w : World) : Stk B w (.slice none 0 0) (.slice none 0 0) [] := ⟨World.ownsRow_nil _ _ _ _, World.ownsRow_nil _ _ _ _, .inl rfl⟩
theorem row_shape {B : Nat} {w : World} {t : TypeId} {v : Value} {n : Nat} {xs : List Value} (h : w.ownsRow B t 1 v n xs) : ∃ a c, v = .slice a n c ∧ (0 < n → ∃ g, a = some ⟨g, 0, none⟩ ∧ B ≤ g ∧ g < w.heap.size) := by
  have hlt := World.ownsRow.lt h
  rcases h.2 with ⟨rfl, rfl⟩ | ⟨g, cap, cur, rfl, hg, _⟩
  · exact ⟨none, 0, rfl, fun h => absurd h (by omega)⟩
  · exact ⟨some ⟨g, 0, none⟩, cap, rfl, fun _ => ⟨g, rfl, hlt g rfl⟩⟩
theorem row_cut {B : Nat} {w : World} {t : TypeId} {g n cap : Nat} {x : Value} {xs : List Value} (h : w.ownsRow B t 1 (.slice (some ⟨g, 0, none⟩) (n + 1) cap) (n + 1) (xs ++ [x])) : w.ownsRow B t 1 (.slice (some ⟨g, 0, none⟩) n cap) n xs := by
  obtain ⟨hl, h⟩ := h
  have hxn : xs.length = n := by simpa using hl
  refine ⟨by simpa using hxn, ?_⟩
  rcases h with ⟨h, _⟩ | ⟨g', cap', cur, h, hg, hh, hn, hc, hs, ht⟩
  · cases h
  · injection h with e1 e2 e3
    injection e1 with e1
    injection e1 with e1
    subst e1 e3
    refine .inr ⟨g, cap, cur, rfl, hg, hh, by omega, hc, hs, ?_⟩
    have h2 := congrArg (List.take n) ht
    rw [List.take_take, Nat.mul_one, show min n (n + 1) = n by omega, List.take_append_of_le_length (by omega), List.take_of_length_le (l := xs) (by omega)] at h2
    rw [Nat.mul_one]
    exact h2
theorem Stk.far {B : Nat} {w w' : World} {v1 v2 : Value} {S : List (Int × Bool)} (h : Stk B w v1 v2 S) (hg : w.grownBy w' none) : Stk B w' v1 v2 S :=
  ⟨World.ownsRow.kept h.o1 hg (by cases v1.ownBlock <;> simp), World.ownsRow.kept h.o2 hg (by cases v2.ownBlock <;> simp), h.ap⟩
theorem Stk.drew {B : Nat} {w : World} {v1 v2 : Value} {S : List (Int × Bool)} (h : Stk B w v1 v2 S) (n : Nat) : Stk B (w.drewN n) v1 v2 S := ⟨h.o1, h.o2, h.ap⟩
theorem Stk.shape {B : Nat} {w : World} {v1 v2 : Value} {S : List (Int × Bool)} (h : Stk B w v1 v2 S) : ∃ a1 c1 a2 c2, v1 = .slice a1 S.length c1 ∧ v2 = .slice a2 S.length c2 := by
  obtain ⟨a1, c1, e1, _⟩ := row_shape h.o1
  obtain ⟨a2, c2, e2, _⟩ := row_shape h.o2
  exact ⟨a1, c1, a2, c2, e1, e2⟩
theorem Stk.block {B : Nat} {w : World} {a1 a2 : Option Addr} {n c1 c2 : Nat} {S : List (Int × Bool)} (h : Stk B w (.slice a1 n c1) (.slice a2 n c2) S) (h0 : 0 < S.length) : ∃ g1 g2, a1 = some ⟨g1, 0, none⟩ ∧ a2 = some ⟨g2, 0, none⟩ ∧ g1 ≠ g2 ∧ B ≤ g1 ∧ B ≤ g2 ∧ g1 < w.heap.size ∧ g2 < w.heap.size := by
  obtain ⟨b1, d1, e1, k1⟩ := row_shape h.o1
  obtain ⟨b2, d2, e2, k2⟩ := row_shape h.o2
  obtain ⟨g1, rfl, p1, q1⟩ := k1 h0
  obtain ⟨g2, rfl, p2, q2⟩ := k2 h0
  injection e1 with e1 _ _
  injection e2 with e2 _ _
  subst e1 e2
  refine ⟨g1, g2, rfl, rfl, fun e => ?_, p1, p2, q1, q2⟩
  rcases h.ap with h | h
  · simp [Value.ownBlock] at h
  · exact h (by rw [e]; rfl)
/-- the numbers of operands to come are stored in one of the rows, at the top -/
theorem Stk.top {B : Nat} {w : World} {g1 g2 n c1 c2 : Nat} {l : Int} {o : Bool} {r : List (Int × Bool)} (h : Stk B w (.slice (some ⟨g1, 0, none⟩) n c1) (.slice (some ⟨g2, 0, none⟩) n c2) ((l, o) :: r)) (hn : n = r.length + 1) :
    w.cell? ⟨g1, r.length, none⟩ = some (.int .i64 l) ∧ w.frozen? ⟨g1, r.length, none⟩ = false := by
  have h1 := h.o1
  subst hn
  have hc := World.ownsRow.cellAt h1 r.length (by simp)
  rw [lefts_cons, List.getElem?_append_right (by rw [lefts_len]; omega), lefts_len] at hc
  exact ⟨by rw [hc]; simp, World.ownsRow.frozenAt h1 _⟩
theorem Stk.openAt {B : Nat} {w : World} {g1 g2 n c1 c2 : Nat} {S : List (Int × Bool)} (h : Stk B w (.slice (some ⟨g1, 0, none⟩) n c1) (.slice (some ⟨g2, 0, none⟩) n c2) S) (hn : n = S.length) {k : Nat} (hk : k < S.length) :
    ∃ o, w.cell? ⟨g2, k, none⟩ = some (.bool o) ∧ (S.reverse.take (k + 1)).countP (·.2) = (S.reverse.take k).countP (·.2) + (if o then 1 else 0) := by
  have h1 := h.o2
  subst hn
  have hc := World.ownsRow.cellAt h1 k (by omega)
  have hkr : k < S.reverse.length := by simpa using hk
  refine ⟨(S.reverse[k]).2, ?_, ?_⟩
  · rw [hc, opens, ← List.map_reverse, List.getElem?_map, List.getElem?_eq_getElem hkr]
    rfl
  · rw [List.take_add_one, List.getElem?_eq_getElem hkr, List.countP_append]
    simp [List.countP_cons]
theorem Stk.pop {B : Nat} {w : World} {g1 g2 n c1 c2 : Nat} {x : Int × Bool} {r : List (Int × Bool)} (h : Stk B w (.slice (some ⟨g1, 0, none⟩) n c1) (.slice (some ⟨g2, 0, none⟩) n c2) (x :: r)) (hn : n = r.length + 1) :
    Stk B w (.slice (some ⟨g1, 0, none⟩) r.length c1) (.slice (some ⟨g2, 0, none⟩) r.length c2) r := by
  subst hn
  have h1 := h.o1
  have h2 := h.o2
  rw [lefts_cons] at h1
  rw [opens_cons] at h2
  refine ⟨row_cut h1, row_cut h2, ?_⟩
  have := h.ap
  simpa [Value.ownBlock] using this
theorem Stk.dec {B : Nat} {w : World} {g1 g2 n c1 c2 : Nat} {l : Int} {o : Bool} {r : List (Int × Bool)} (h : Stk B w (.slice (some ⟨g1, 0, none⟩) n c1) (.slice (some ⟨g2, 0, none⟩) n c2) ((l, o) :: r)) (hn : n = r.length + 1) :
    Stk B (w.setCell ⟨g1, r.length, none⟩ (.int .i64 (l - 1))) (.slice (some ⟨g1, 0, none⟩) n c1) (.slice (some ⟨g2, 0, none⟩) n c2) ((l - 1, o) :: r) := by
  have h1 := h.o1
  subst hn
  obtain ⟨k1, k2⟩ := World.ownsRow.stored h1 r.length (.int .i64 (l - 1))
  have hs : (lefts ((l, o) :: r)).set r.length (.int .i64 (l - 1)) = lefts ((l - 1, o) :: r) := by
    rw [lefts_cons, lefts_cons, List.set_append_right _ _ (by rw [lefts_len]; omega), lefts_len]
    simp
  rw [hs] at k1
  refine ⟨k1, World.ownsRow.kept h.o2 k2 ?_, h.ap⟩
  rcases h.ap with h | h
  · simp [Value.ownBlock] at h
  · exact .inr fun e => h (by rw [e]; rfl)
theorem row_cap {B : Nat} {w : World} {t : TypeId} {a : Option Addr} {n c : Nat} {xs : List Value} (h : w.ownsRow B t 1 (.slice a n c) n xs) : n ≤ c ∧ c ≤ maxLen := by
  rcases h.2 with ⟨e, rfl⟩ | ⟨g, cap, cur, e, _, _, h1, h2, _⟩
  · exact ⟨Nat.zero_le _, by injection e with _ _ e; omega⟩
  · injection e with _ _ e
    omega
theorem infoInt : (Tryz.prog.info? 3).map (fun i => (i.zero, i.size, i.bytes)) = some (some (.int .i64 0), 1, 8) := by kernel_rfl
theorem infoBool : (Tryz.prog.info? 4).map (fun i => (i.zero, i.size, i.bytes)) = some (some (.bool false), 1, 1) := by kernel_rfl
/-- a term is on the one row, not yet on the other -/
structure Mid (B : Nat) (w : World) (v1 v2 : Value) (l : Int) (S : List (Int × Bool)) : Prop where
  o1 : w.ownsRow B 3 1 v1 (S.length + 1) (lefts S ++ [.int .i64 l])
  o2 : w.ownsRow B 4 1 v2 S.length (opens S)
  ap : v1.ownBlock = none ∨ v1.ownBlock ≠ v2.ownBlock
theorem Mid.far {B : Nat} {w w' : World} {v1 v2 : Value} {l : Int} {S : List (Int × Bool)} (h : Mid B w v1 v2 l S) (hg : w.grownBy w' none) : Mid B w' v1 v2 l S :=
  ⟨World.ownsRow.kept h.o1 hg (by cases v1.ownBlock <;> simp), World.ownsRow.kept h.o2 hg (by cases v2.ownBlock <;> simp), h.ap⟩
theorem Stk.app1 {B : Nat} {w w' : World} {v1 v2 : Value} {l : Int} {S : List (Int × Bool)} {g cap : Nat} (h : Stk B w v1 v2 S) (ho : w'.ownsRow B 3 1 (.slice (some ⟨g, 0, none⟩) (S.length + 1) cap) (S.length + 1) (lefts S ++ [.int .i64 l]))
    (hg : w.grownBy w' v1.ownBlock) (hat : v1.ownBlock = some g ∨ g = w.heap.size) : Mid B w' (.slice (some ⟨g, 0, none⟩) (S.length + 1) cap) v2 l S := by
  refine ⟨ho, World.ownsRow.kept h.o2 hg ?_, ?_⟩
  · rcases h.ap with h | h
    · rw [h]; cases v2.ownBlock <;> simp
    · exact .inr (Ne.symm h)
  · refine .inr fun e => ?_
    have e2 : v2.ownBlock = some g := by rw [← e]; rfl
    rcases hat with h1 | h1
    · rcases h.ap with h | h
      · rw [h1] at h; cases h
      · exact h (by rw [h1, e2])
    · have := (World.ownsRow.lt h.o2 g e2).2
      omega
theorem Mid.app2 {B : Nat} {w w' : World} {v1 v2 : Value} {l : Int} {o : Bool} {S : List (Int × Bool)} {g cap : Nat} (h : Mid B w v1 v2 l S) (ho : w'.ownsRow B 4 1 (.slice (some ⟨g, 0, none⟩) (S.length + 1) cap) (S.length + 1) (opens S ++ [.bool o]))
    (hg : w.grownBy w' v2.ownBlock) (hat : v2.ownBlock = some g ∨ g = w.heap.size) : Stk B w' v1 (.slice (some ⟨g, 0, none⟩) (S.length + 1) cap) ((l, o) :: S) := by
  refine ⟨?_, ?_, ?_⟩
  · rw [lefts_cons]
    refine World.ownsRow.kept h.o1 hg ?_
    rcases h.ap with h | h
    · exact .inl h
    · exact .inr h
  · rw [opens_cons]
    exact ho
  · cases h1 : v1.ownBlock with
    | none => exact .inl rfl
    | some k =>
      refine .inr fun e => ?_
      have e2 : k = g := by injection e
      subst e2
      rcases hat with h2 | h2
      · rcases h.ap with h | h
        · rw [h1] at h; cases h
        · exact h (by rw [h1, h2])
      · have := (World.ownsRow.lt h.o1 k h1).2
        omega
end Go.Proofs.YtdbahiepihkagaaGreatDoor
namespace Go.Proofs.YtdbahiepihkagaaGreatDoor

def aggN (op : Int) : Nat := if aggF op = true then 1 else 0
/-- w expressions, one behind the other: the greatest of their depths is d, of their nests n -/
inductive Exs : Nat → List (Int × Int) → Nat → Nat → Prop
  | nil : Exs 0 [] 0 0
  | cons {t : Int × Int} {k j d n d' n' : Nat} {b c : List (Int × Int)} (ha : arF t.1 = (k : Int)) (hb : Exs k b d n) (hc : Exs j c d' n') : Exs (j + 1) (t :: (b ++ c)) (max (d + 1) d') (max (n + aggN t.1) n')
theorem Exs.zero {a : List (Int × Int)} {d n : Nat} (h : Exs 0 a d n) : a = [] ∧ d = 0 ∧ n = 0 := by
  generalize hw : 0 = w at h
  cases h with
  | nil => exact ⟨rfl, rfl, rfl⟩
  | cons ha hb hc => cases hw
theorem Exs.eats {w : Nat} {a : List (Int × Int)} {d n : Nat} (h : Exs w a d n) : eat a w = some a.length := by
  induction h with
  | nil => rfl
  | cons ha hb hc ih1 ih2 =>
    rename_i t k j d n d' n' b c
    rw [eat_cons, if_neg (by omega), ha, Int.toNat_natCast, Nat.add_comm j k, eat_add, eat_part c ih1]
    simp [ih2]
theorem exs_of : ∀ (m : Nat) (ts : List (Int × Int)) (w n : Nat), ts.length ≤ m → eat ts w = some n → ∃ d e, Exs w (ts.take n) d e
  | _, ts, 0, n, _, h => by
    rw [eat_zero] at h
    cases h
    exact ⟨0, 0, .nil⟩
  | _, [], w + 1, n, _, h => by rw [eat_nil] at h; cases h
  | 0, t :: ts, w + 1, n, hl, h => by simp at hl
  | m + 1, t :: ts, w + 1, n, hl, h => by
    rw [eat_cons] at h
    split at h
    · cases h
    · rename_i hk
      rw [Nat.add_comm w, eat_add] at h
      cases h1 : eat ts (arF t.1).toNat with
      | none => rw [h1] at h; cases h
      | some n1 =>
        rw [h1] at h
        simp only [Option.bind_some] at h
        cases h2 : eat (ts.drop n1) w with
        | none => rw [h2] at h; cases h
        | some n2 =>
          rw [h2] at h
          have e : n1 + n2 + 1 = n := by simpa using h
          subst e
          have hl2 : ts.length ≤ m := by simpa using hl
          obtain ⟨d1, e1, x1⟩ := exs_of m ts _ n1 hl2 h1
          obtain ⟨d2, e2, x2⟩ := exs_of m (ts.drop n1) w n2 (by rw [List.length_drop]; omega) h2
          refine ⟨max (d1 + 1) d2, max (e1 + aggN t.1) e2, ?_⟩
          rw [List.take_succ_cons, List.take_add]
          exact .cons (by omega) x1 x2

/-- the top of the stack has room for so many -/
def Room (w : Nat) : List (Int × Bool) → Prop
  | [] => True
  | (l, _) :: _ => (w : Int) ≤ l
def popN : Nat → List (Int × Bool) → List (Int × Bool)
  | 0, S => S
  | w + 1, S => popN w (popD S)
theorem popN_all : ∀ (k : Nat) (l : Int) (o : Bool) (S : List (Int × Bool)), l = (k : Int) + 1 → popN (k + 1) ((l, o) :: S) = popD S
  | 0, l, o, S, h => by
    subst h
    simp [popN, popD]
  | k + 1, l, o, S, h => by
    have e : popD ((l, o) :: S) = (l - 1, o) :: S := by
      unfold popD
      rw [if_neg (by omega)]
    show popN (k + 1) (popD ((l, o) :: S)) = popD S
    rw [e]
    exact popN_all k (l - 1) o S (by omega)
/-- behind w ≥ 2 expressions' first the stack is as high as before -/
theorem popD_high {w : Nat} {S : List (Int × Bool)} (h : Room (w + 2) S) : Room (w + 1) (popD S) ∧ (popD S).length = S.length ∧ insF (popD S) = insF S := by
  cases S with
  | nil => exact ⟨trivial, rfl, rfl⟩
  | cons x r =>
    obtain ⟨l, o⟩ := x
    have hl : ((w + 2 : Nat) : Int) ≤ l := h
    have e : popD ((l, o) :: r) = (l - 1, o) :: r := by
      unfold popD
      rw [if_neg (by omega)]
    rw [e]
    refine ⟨?_, rfl, rfl⟩
    show ((w + 1 : Nat) : Int) ≤ l - 1
    omega
/-- levels of expressions that are read on a stack -/
theorem Exs.lev {w : Nat} {a : List (Int × Int)} {d n : Nat} (h : Exs w a d n) : ∀ (rest : List (Int × Int)) (S : List (Int × Bool)) (D N : Nat), Room w S →
    levG (a ++ rest) S D N = levG rest (popN w S) (max D (if w = 0 then 0 else S.length + d)) (max N (if w = 0 then 0 else insF S + n)) := by
  induction h with
  | nil =>
    intro rest S D N _
    simp [popN]
  | cons ha hb hc ih1 ih2 =>
    rename_i t k j d n d' n' b c
    intro rest S D N hr
    have hins : insF ((arF t.1, aggF t.1) :: S) = insF S + aggN t.1 := by
      unfold insF aggN
      rw [List.countP_cons]
    have step : levG ((t :: (b ++ c)) ++ rest) S D N = levG (b ++ (c ++ rest)) (popF (((k : Int), aggF t.1) :: S)) (max D (S.length + 1)) (max N (insF S + aggN t.1)) := by
      rw [List.cons_append, List.append_assoc]
      show levG (b ++ (c ++ rest)) (popF ((arF t.1, aggF t.1) :: S)) _ (max N (insF ((arF t.1, aggF t.1) :: S))) = _
      rw [hins, ha]
    have mid : levG ((t :: (b ++ c)) ++ rest) S D N = levG (c ++ rest) (popD S) (max D (S.length + (d + 1))) (max N (insF S + (n + aggN t.1))) := by
      rw [step]
      cases k with
      | zero =>
        obtain ⟨rfl, rfl, rfl⟩ := hb.zero
        have e : popF ((((0 : Nat) : Int), aggF t.1) :: S) = popD S := by simp [popF]
        rw [e, List.nil_append]
        congr 1
        · omega
      | succ k =>
        have e : popF ((((k + 1 : Nat) : Int), aggF t.1) :: S) = (((k + 1 : Nat) : Int), aggF t.1) :: S := popF_done (by omega)
        rw [e, ih1 (c ++ rest) _ _ _ (by show ((k + 1 : Nat) : Int) ≤ ((k + 1 : Nat) : Int); omega), popN_all k _ _ _ (by omega)]
        have hi2 : insF ((((k + 1 : Nat) : Int), aggF t.1) :: S) = insF S + aggN t.1 := by
          unfold insF aggN
          rw [List.countP_cons]
        rw [if_neg (by omega), if_neg (by omega), hi2, List.length_cons]
        congr 1
        · omega
        · omega
    rw [mid]
    cases j with
    | zero =>
      obtain ⟨rfl, rfl, rfl⟩ := hc.zero
      rw [List.nil_append]
      show levG rest (popD S) _ _ = levG rest (popN 0 (popD S)) _ _
      rw [if_neg (by omega), if_neg (by omega)]
      unfold popN
      congr 1
      omega
    | succ j =>
      obtain ⟨h1, h2, h3⟩ := popD_high hr
      rw [ih2 rest (popD S) _ _ h1, if_neg (by omega), if_neg (by omega), if_neg (by omega), if_neg (by omega), h2, h3]
      show levG rest (popN (j + 1) (popD S)) _ _ = levG rest (popN (j + 1) (popD S)) _ _
      congr 1
      · omega
      · omega
theorem Exs.levF {a : List (Int × Int)} {d n : Nat} (h : Exs 1 a d n) : levF a = (d, n) := by
  have := h.lev [] [] 0 0 trivial
  rw [List.append_nil] at this
  unfold Go.Proofs.YtdbahiepihkagaaGreatDoor.levF
  rw [this]
  simp [levG, insF]
/-- a list that is one expression -/
theorem one_exs {xs : List (Int × Int)} (h : eat xs 1 = some xs.length) : Exs 1 xs (levF xs).1 (levF xs).2 := by
  obtain ⟨d, n, hx⟩ := exs_of xs.length xs 1 xs.length (Nat.le_refl _) h
  rw [List.take_length] at hx
  rw [hx.levF]
  exact hx
theorem oneB_iff {xs : List (Int × Int)} : oneB xs = true ↔ eat xs 1 = some xs.length := by
  unfold oneB
  rw [decide_eq_true_eq]
  constructor
  · rintro ⟨h0, h⟩
    unfold endF at h
    rw [if_pos (by omega)] at h
    simp only [Int.toNat_zero, List.drop_zero] at h
    split at h
    · rename_i n hn
      rw [hn]
      congr 1
      omega
    · omega
  · intro h
    have := eat_le h
    refine ⟨by omega, ?_⟩
    have h2 := endF_some (xs := xs) (p := 0) (n := xs.length) (by simpa using h)
    simpa using h2
/-- every part is an expression, no deeper, and less deep if it is a proper part of one expression -/
theorem Exs.part {w : Nat} {a : List (Int × Int)} {d n : Nat} (h : Exs w a d n) : ∀ i, i < a.length → ∃ m d' n', eat (a.drop i) 1 = some m ∧ Exs 1 ((a.drop i).take m) d' n' ∧ d' ≤ d ∧ n' ≤ n ∧ (w = 1 → i ≠ 0 → d' < d) := by
  induction h with
  | nil => intro i hi; simp at hi
  | cons ha hb hc ih1 ih2 =>
    rename_i t k j d n d' n' b c
    intro i hi
    cases i with
    | zero =>
      have hx := Exs.cons ha hb Exs.nil
      rw [List.append_nil] at hx
      refine ⟨b.length + 1, max (d + 1) 0, max (n + aggN t.1) 0, ?_, ?_, by omega, by omega, fun _ h => absurd rfl h⟩
      · rw [List.drop_zero]
        have := eat_part c hx.eats
        rwa [List.cons_append, List.length_cons] at this
      · rw [List.drop_zero, List.take_succ_cons, List.take_append_of_le_length (Nat.le_refl _), List.take_length]
        exact hx
    | succ i =>
      rw [List.drop_succ_cons]
      by_cases hib : i < b.length
      · obtain ⟨m, d1, n1, h1, h2, h3, h4, _⟩ := ih1 i hib
        have hm := (eat_le h1).2
        rw [List.drop_append_of_le_length (by omega)]
        refine ⟨m, d1, n1, eat_part c h1, ?_, by omega, by omega, fun _ _ => by omega⟩
        rw [List.take_append_of_le_length hm]
        exact h2
      · have hlen : i + 1 < b.length + c.length + 1 := by simpa using hi
        obtain ⟨m, d1, n1, h1, h2, h3, h4, _⟩ := ih2 (i - b.length) (by omega)
        have e : (b ++ c).drop i = c.drop (i - b.length) := by
          rw [List.drop_append, List.drop_of_length_le (by omega), List.nil_append]
        rw [e]
        refine ⟨m, d1, n1, h1, h2, by omega, by omega, fun hw _ => ?_⟩
        have hj : j = 0 := by omega
        subst hj
        obtain ⟨rfl, _, _⟩ := hc.zero
        simp at hlen
        omega
/-- the places of the operands -/
theorem place_eat {xs : List (Int × Int)} {p K N : Nat} (h : eat (xs.drop (p + 1)) K = some N) : ∀ k, k ≤ K → ∃ n, eat (xs.drop (p + 1)) k = some n ∧ placeF xs p k = (p + 1 + n : Nat)
  | 0, _ => ⟨0, eat_zero _, by unfold placeF; omega⟩
  | k + 1, hk => by
    obtain ⟨n, h1, h2⟩ := place_eat h k (by omega)
    rw [show K = k + (1 + (K - k - 1)) by omega, eat_add, h1, Option.bind_some, eat_add] at h
    cases h3 : eat ((xs.drop (p + 1)).drop n) 1 with
    | none => rw [h3] at h; cases h
    | some m =>
      refine ⟨n + m, by rw [eat_add, h1, Option.bind_some, h3]; rfl, ?_⟩
      rw [List.drop_drop] at h3
      show endF xs (placeF xs p k) = _
      rw [h2, endF_some h3]
      omega
theorem end_place {xs : List (Int × Int)} {p m : Nat} (hp : p < xs.length) (h : eat (xs.drop p) 1 = some m) : 0 ≤ arF (toA xs p) ∧ endF xs p = placeF xs p (arF (toA xs p)).toNat ∧ ∃ N, eat (xs.drop (p + 1)) (arF (toA xs p)).toNat = some N := by
  have he := endF_some h
  rw [drop_tm hp, eat_cons] at h
  split at h
  · cases h
  · rename_i hk
    dsimp only at h hk
    rw [Nat.zero_add] at h
    cases hn : eat (xs.drop (p + 1)) (arF (toA xs p)).toNat with
    | none => rw [hn] at h; cases h
    | some N =>
      rw [hn] at h
      have e : N + 1 = m := by simpa using h
      obtain ⟨n, h1, h2⟩ := place_eat hn _ (Nat.le_refl _)
      rw [hn] at h1
      cases h1
      exact ⟨by omega, by rw [he, h2]; omega, N, rfl⟩
/-- in one expression an expression begins at each place -/
theorem one_part {xs : List (Int × Int)} (h : oneB xs = true) {p : Nat} (hp : p < xs.length) : ∃ m, eat (xs.drop p) 1 = some m := by
  obtain ⟨m, _, _, h1, _⟩ := (one_exs (oneB_iff.1 h)).part p hp
  exact ⟨m, h1⟩
/-- a proper beginning is no expression; nor is one with a term behind it -/
theorem one_cut {xs : List (Int × Int)} (h : oneB xs = true) {m : Nat} (hm : m < xs.length) : eat (xs.take m) 1 = none := by
  cases hk : eat (xs.take m) 1 with
  | none => rfl
  | some k =>
    have h1 := eat_part (xs.drop m) hk
    rw [List.take_append_drop, oneB_iff.1 h] at h1
    have h2 := (eat_le hk).2
    rw [List.length_take] at h2
    injection h1 with h1
    omega
theorem one_long {xs : List (Int × Int)} (h : oneB xs = true) (t : Int × Int) : eat (xs ++ [t]) 1 = some xs.length := eat_part [t] (oneB_iff.1 h)
end Go.Proofs.YtdbahiepihkagaaGreatDoor
namespace Go.Proofs.YtdbahiepihkagaaGreatDoor
set_option maxRecDepth 100000

/-- what a term adds: one, or one for an aggregate -/
def addN (b : Bool) (op : Int) : Nat := if b = true then 1 else aggN op
theorem addN_le (b : Bool) (op : Int) : addN b op ≤ 1 := by
  unfold addN aggN
  repeat' split
  all_goals omega
/-- the greatest of some numbers, the last one first -/
def mxL (l : List Nat) : Nat := l.reverse.foldl max 0
theorem mxL_nil : mxL [] = 0 := rfl
theorem mxL_cons (v : Nat) (l : List Nat) : mxL (v :: l) = max (mxL l) v := by simp [mxL]
theorem mxL_le {l : List Nat} {b : Nat} (h : ∀ v ∈ l, v ≤ b) : mxL l ≤ b := by
  induction l with
  | nil => rw [mxL_nil]; omega
  | cons v l ih =>
    rw [mxL_cons]
    have h1 := ih (fun u hu => h u (by simp [hu]))
    have h2 := h v (by simp)
    omega
theorem mxL_app (a b : List Nat) : mxL (a ++ b) = max (mxL a) (mxL b) := by
  induction a with
  | nil => simp [mxL_nil]
  | cons v a ih => rw [List.cons_append, mxL_cons, mxL_cons, ih]; omega
/-- what stands on the stack, the top first, when these terms have been read -/
def topF (b : Bool) : List (Int × Int) → List Nat
  | [] => []
  | t :: ts => (mxL ((topF b ts).take (arF t.1).toNat) + addN b t.1) :: (topF b ts).drop (arF t.1).toNat
theorem topF_len (b : Bool) : ∀ ts : List (Int × Int), (topF b ts).length ≤ ts.length
  | [] => by simp [topF]
  | t :: ts => by
    have := topF_len b ts
    simp only [topF, List.length_cons, List.length_drop]
    omega
theorem topF_le (b : Bool) : ∀ (ts : List (Int × Int)) (v : Nat), v ∈ topF b ts → v ≤ ts.length
  | [], v, h => by simp [topF] at h
  | t :: ts, v, h => by
    unfold topF at h
    rcases List.mem_cons.1 h with h | h
    · have h1 : mxL ((topF b ts).take (arF t.1).toNat) ≤ ts.length := mxL_le fun u hu => topF_le b ts u (List.mem_of_mem_take hu)
      have h2 := addN_le b t.1
      rw [List.length_cons]
      omega
    · have := topF_le b ts v (List.mem_of_mem_drop h)
      rw [List.length_cons]
      omega
/-- expressions that have been read stand on the stack, one for each -/
theorem Exs.top {w : Nat} {a : List (Int × Int)} {d n : Nat} (b : Bool) (h : Exs w a d n) : ∀ rest : List (Int × Int), ∃ vs, topF b (a ++ rest) = vs ++ topF b rest ∧ vs.length = w ∧ mxL vs = if b = true then d else n := by
  induction h with
  | nil => exact fun rest => ⟨[], rfl, rfl, by cases b <;> rfl⟩
  | cons ha hb hc ih1 ih2 =>
    rename_i t k j d n d' n' p q
    intro rest
    obtain ⟨vs, h1, h2, h3⟩ := ih1 (q ++ rest)
    obtain ⟨us, g1, g2, g3⟩ := ih2 rest
    refine ⟨(mxL vs + addN b t.1) :: us, ?_, by simp [g2], ?_⟩
    · rw [List.cons_append, List.append_assoc, topF, ha, Int.toNat_natCast, h1, List.take_left' h2, List.drop_left' h2, g1]
      rfl
    · rw [mxL_cons, h3, g3]
      cases b
      · simp only [addN, Bool.false_eq_true, if_false]
        omega
      · simp only [addN, if_true]
        omega
theorem Exs.app {w : Nat} {a : List (Int × Int)} {d n : Nat} (h : Exs w a d n) : ∀ {w' : Nat} {a' : List (Int × Int)} {d' n' : Nat}, Exs w' a' d' n' → ∃ d2 n2, Exs (w + w') (a ++ a') d2 n2 := by
  induction h with
  | nil =>
    intro w' a' d' n' h'
    rw [Nat.zero_add]
    exact ⟨_, _, h'⟩
  | cons ha hb hc ih1 ih2 =>
    rename_i t k j d n d1 n1 p q
    intro w' a' d' n' h'
    obtain ⟨d2, n2, h2⟩ := ih2 h'
    rw [List.cons_append, List.append_assoc, show j + 1 + w' = (j + w') + 1 by omega]
    exact ⟨_, _, .cons ha hb h2⟩
/-- what is left of expressions are expressions -/
theorem Exs.rest {w : Nat} {a : List (Int × Int)} {d n : Nat} (h : Exs w a d n) : ∀ i, i ≤ a.length → ∃ w' d' n', Exs w' (a.drop i) d' n' := by
  induction h with
  | nil => exact fun i _ => ⟨0, 0, 0, by rw [List.drop_nil]; exact .nil⟩
  | cons ha hb hc ih1 ih2 =>
    rename_i t k j d n d1 n1 p q
    intro i hi
    cases i with
    | zero => exact ⟨_, _, _, .cons ha hb hc⟩
    | succ i =>
      rw [List.drop_succ_cons]
      by_cases h : i ≤ p.length
      · obtain ⟨w1, d2, n2, h1⟩ := ih1 i h
        obtain ⟨d3, n3, h2⟩ := h1.app hc
        exact ⟨_, _, _, by rw [List.drop_append_of_le_length h]; exact h2⟩
      · obtain ⟨w1, d2, n2, h1⟩ := ih2 (i - p.length) (by simp at hi; omega)
        exact ⟨_, _, _, by rw [List.drop_append, List.drop_of_length_le (by omega), List.nil_append]; exact h1⟩
/-- each term of one expression finds its operands -/
theorem top_room {xs : List (Int × Int)} (h : oneB xs = true) (b : Bool) {i : Nat} (hi : i < xs.length) : 0 ≤ arF (toA xs i) ∧ (arF (toA xs i)).toNat ≤ (topF b (xs.drop (i + 1))).length := by
  obtain ⟨w, d, n, hx⟩ := (one_exs (oneB_iff.1 h)).rest i (Nat.le_of_lt hi)
  rw [drop_tm hi] at hx
  generalize hq : (toA xs i, wtA xs i) :: xs.drop (i + 1) = q at hx
  cases hx with
  | nil => cases hq
  | cons ha hb hc =>
    rename_i t k j d n d1 n1 p q
    injection hq with h1 h2
    subst h1
    dsimp only at ha
    obtain ⟨vs, g1, g2, _⟩ := hb.top b q
    rw [h2, g1, ha]
    simp [g2]
/-- .. and the whole expression has one number -/
theorem top_whole {xs : List (Int × Int)} (h : oneB xs = true) (b : Bool) : topF b xs = [if b = true then (levF xs).1 else (levF xs).2] := by
  obtain ⟨vs, g1, g2, g3⟩ := (one_exs (oneB_iff.1 h)).top b []
  rw [List.append_nil] at g1
  rw [g1]
  match vs, g2 with
  | [v], _ =>
    simp only [mxL_cons, mxL_nil] at g3
    rw [← g3]
    simp [topF]
theorem top_step {xs : List (Int × Int)} (b : Bool) {i : Nat} (hi : i < xs.length) : topF b (xs.drop i) = (mxL ((topF b (xs.drop (i + 1))).take (arF (toA xs i)).toNat) + addN b (toA xs i)) :: (topF b (xs.drop (i + 1))).drop (arF (toA xs i)).toNat := by
  rw [drop_tm hi]
  rfl
end Go.Proofs.YtdbahiepihkagaaGreatDoor
