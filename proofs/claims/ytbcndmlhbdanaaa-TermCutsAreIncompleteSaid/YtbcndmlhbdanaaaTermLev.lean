/- Levels of expressions: the stack of open terms, as mathematics and in memory. -/
import Derived.Test.YtbcndmlhbdanaaaTermR3
import Derived.Deep.AppendLies
import Derived.Deep.RegionLaw
import Derived.Laws.OwnMore
namespace Go.Proofs.Ytbcndmlhbdanaaa
open Go.RowKit Go.Deep

/-! ### The stack: its top comes first; an open term stands there with the operands that are still to come and whether it is an aggregate -/
def decF : List (Int × Bool) → List (Int × Bool)
  | [] => []
  | (l, o) :: r => (l - 1, o) :: r
def popD : List (Int × Bool) → List (Int × Bool)
  | [] => []
  | (l, o) :: r => if l - 1 = 0 then popD r else (l - 1, o) :: r
def popF : List (Int × Bool) → List (Int × Bool)
  | [] => []
  | (l, o) :: r => if l = 0 then popD r else (l, o) :: r
theorem decF_len (S : List (Int × Bool)) : (decF S).length = S.length := by cases S <;> rfl
theorem popF_decF (S : List (Int × Bool)) : popF (decF S) = popD S := by cases S <;> rfl
theorem popF_next {l : Int} {o : Bool} {r : List (Int × Bool)} (h : l = 0) : popF (decF r) = popF ((l, o) :: r) := by
  rw [popF_decF]
  simp [popF, h]
theorem popF_done {l : Int} {o : Bool} {r : List (Int × Bool)} (h : l ≠ 0) : popF ((l, o) :: r) = (l, o) :: r := by simp [popF, h]
/-- the aggregates among the open terms -/
def insF (S : List (Int × Bool)) : Nat := S.countP (·.2)
theorem insF_le (S : List (Int × Bool)) : insF S ≤ S.length := List.countP_le_length
def levG : List (Int × Int) → List (Int × Bool) → Nat → Nat → Nat × Nat
  | [], _, d, n => (d, n)
  | t :: ts, S, d, n => levG ts (popF ((arF t.1, aggF t.1) :: S)) (max d (S.length + 1)) (max n (insF ((arF t.1, aggF t.1) :: S)))
/-- Depth and Nest of a list that is one expression -/
def levF (xs : List (Int × Int)) : Nat × Nat := levG xs [] 0 0

def Low (b : Int) (S : List (Int × Bool)) : Prop := ∀ x ∈ S, -b ≤ x.1 ∧ x.1 ≤ 3
def LowB (b : Int) : List (Int × Bool) → Prop
  | [] => True
  | x :: r => (-b - 1 ≤ x.1 ∧ x.1 ≤ 3) ∧ Low b r
theorem Low.push {b : Int} {S : List (Int × Bool)} (h : Low b S) (hb : 0 ≤ b) (op : Int) (o : Bool) : LowB b ((arF op, o) :: S) := by
  have := arF_le op
  exact ⟨⟨by dsimp only; omega, by dsimp only; omega⟩, h⟩
theorem LowB.next {b : Int} {x : Int × Bool} {r : List (Int × Bool)} (h : LowB b (x :: r)) : LowB b (decF r) := by
  cases r with
  | nil => trivial
  | cons y r =>
    have h1 := h.2 y (by simp)
    exact ⟨⟨by dsimp only; omega, by dsimp only; omega⟩, fun z hz => h.2 z (by simp [hz])⟩
theorem LowB.low {b : Int} {S : List (Int × Bool)} (h : LowB b S) : Low (b + 1) S := by
  cases S with
  | nil => exact fun x hx => by cases hx
  | cons y r =>
    intro x hx
    rcases List.mem_cons.1 hx with rfl | hx
    · have := h.1
      omega
    · have := h.2 x hx
      omega

/-! ### In memory: two rows of the call's own -/
def lefts (S : List (Int × Bool)) : List Value := (S.map fun x => Value.int .i64 x.1).reverse
def opens (S : List (Int × Bool)) : List Value := (S.map fun x => Value.bool x.2).reverse
theorem lefts_cons (x : Int × Bool) (S : List (Int × Bool)) : lefts (x :: S) = lefts S ++ [.int .i64 x.1] := by simp [lefts]
theorem opens_cons (x : Int × Bool) (S : List (Int × Bool)) : opens (x :: S) = opens S ++ [.bool x.2] := by simp [opens]
theorem lefts_len (S : List (Int × Bool)) : (lefts S).length = S.length := by simp [lefts]
theorem opens_len (S : List (Int × Bool)) : (opens S).length = S.length := by simp [opens]
structure Stk (B : Nat) (w : World) (v1 v2 : Value) (S : List (Int × Bool)) : Prop where
  o1 : w.ownsRow B 3 1 v1 S.length (lefts S)
  o2 : w.ownsRow B 4 1 v2 S.length (opens S)
  ap : v1.ownBlock = none ∨ v1.ownBlock ≠ v2.ownBlock
theorem Stk.nil (B : Nat) (w : World) : Stk B w (.slice none 0 0) (.slice none 0 0) [] := ⟨World.ownsRow_nil _ _ _ _, World.ownsRow_nil _ _ _ _, .inl rfl⟩
theorem row_shape {B : Nat} {w : World} {t : TypeId} {v : Value} {n : Nat} {xs : List Value} (h : w.ownsRow B t 1 v n xs) : ∃ a c, v = .slice a n c ∧ (0 < n → ∃ g, a = some ⟨g, 0, none⟩ ∧ B ≤ g ∧ g < w.heap.size) := by
  have hlt := World.ownsRow.lt h
  rcases h.2 with ⟨rfl, rfl⟩ | ⟨g, cap, cur, rfl, hg, _⟩
  · exact ⟨none, 0, rfl, fun h => absurd h (by omega)⟩
  · exact ⟨some ⟨g, 0, none⟩, cap, rfl, fun _ => ⟨g, rfl, hlt g rfl⟩⟩
theorem row_cut {B : Nat} {w : World} {t : TypeId} {g n cap : Nat} {x : Value} {xs : List Value} (h : w.ownsRow B t 1 (.slice (some ⟨g, 0, none⟩) (n + 1) cap) (n + 1) (xs ++ [x])) : w.ownsRow B t 1 (.slice (some ⟨g, 0, none⟩) n cap) n xs := by
  obtain ⟨hl, h⟩ := h
  have hxn : xs.length = n := by simpa using hl
  refine ⟨by simpa using hxn, ?_⟩
  rcases h with ⟨h, _⟩ | ⟨g', cap', cur, h, hg, hh, hn, hc, hs, ht⟩
  · cases h
  · injection h with e1 e2 e3
    injection e1 with e1
    injection e1 with e1
    subst e1 e3
    refine .inr ⟨g, cap, cur, rfl, hg, hh, by omega, hc, hs, ?_⟩
    have h2 := congrArg (List.take n) ht
    rw [List.take_take, Nat.mul_one, show min n (n + 1) = n by omega, List.take_append_of_le_length (by omega), List.take_of_length_le (l := xs) (by omega)] at h2
    rw [Nat.mul_one]
    exact h2
theorem Stk.far {B : Nat} {w w' : World} {v1 v2 : Value} {S : List (Int × Bool)} (h : Stk B w v1 v2 S) (hg : w.grownBy w' none) : Stk B w' v1 v2 S :=
  ⟨World.ownsRow.kept h.o1 hg (by cases v1.ownBlock <;> simp), World.ownsRow.kept h.o2 hg (by cases v2.ownBlock <;> simp), h.ap⟩
theorem Stk.drew {B : Nat} {w : World} {v1 v2 : Value} {S : List (Int × Bool)} (h : Stk B w v1 v2 S) (n : Nat) : Stk B (w.drewN n) v1 v2 S := ⟨h.o1, h.o2, h.ap⟩
theorem Stk.shape {B : Nat} {w : World} {v1 v2 : Value} {S : List (Int × Bool)} (h : Stk B w v1 v2 S) : ∃ a1 c1 a2 c2, v1 = .slice a1 S.length c1 ∧ v2 = .slice a2 S.length c2 := by
  obtain ⟨a1, c1, e1, _⟩ := row_shape h.o1
  obtain ⟨a2, c2, e2, _⟩ := row_shape h.o2
  exact ⟨a1, c1, a2, c2, e1, e2⟩
theorem Stk.block {B : Nat} {w : World} {a1 a2 : Option Addr} {n c1 c2 : Nat} {S : List (Int × Bool)} (h : Stk B w (.slice a1 n c1) (.slice a2 n c2) S) (h0 : 0 < S.length) : ∃ g1 g2, a1 = some ⟨g1, 0, none⟩ ∧ a2 = some ⟨g2, 0, none⟩ ∧ g1 ≠ g2 ∧ B ≤ g1 ∧ B ≤ g2 ∧ g1 < w.heap.size ∧ g2 < w.heap.size := by
  obtain ⟨b1, d1, e1, k1⟩ := row_shape h.o1
  obtain ⟨b2, d2, e2, k2⟩ := row_shape h.o2
  obtain ⟨g1, rfl, p1, q1⟩ := k1 h0
  obtain ⟨g2, rfl, p2, q2⟩ := k2 h0
  injection e1 with e1 _ _
  injection e2 with e2 _ _
  subst e1 e2
  refine ⟨g1, g2, rfl, rfl, fun e => ?_, p1, p2, q1, q2⟩
  rcases h.ap with h | h
  · simp [Value.ownBlock] at h
  · exact h (by rw [e]; rfl)
/-- the numbers of operands to come are stored in one of the rows, at the top -/
theorem Stk.top {B : Nat} {w : World} {g1 g2 n c1 c2 : Nat} {l : Int} {o : Bool} {r : List (Int × Bool)} (h : Stk B w (.slice (some ⟨g1, 0, none⟩) n c1) (.slice (some ⟨g2, 0, none⟩) n c2) ((l, o) :: r)) (hn : n = r.length + 1) :
    w.cell? ⟨g1, r.length, none⟩ = some (.int .i64 l) ∧ w.frozen? ⟨g1, r.length, none⟩ = false := by
  have h1 := h.o1
  subst hn
  have hc := World.ownsRow.cellAt h1 r.length (by simp)
  rw [lefts_cons, List.getElem?_append_right (by rw [lefts_len]; omega), lefts_len] at hc
  exact ⟨by rw [hc]; simp, World.ownsRow.frozenAt h1 _⟩
theorem Stk.openAt {B : Nat} {w : World} {g1 g2 n c1 c2 : Nat} {S : List (Int × Bool)} (h : Stk B w (.slice (some ⟨g1, 0, none⟩) n c1) (.slice (some ⟨g2, 0, none⟩) n c2) S) (hn : n = S.length) {k : Nat} (hk : k < S.length) :
    ∃ o, w.cell? ⟨g2, k, none⟩ = some (.bool o) ∧ (S.reverse.take (k + 1)).countP (·.2) = (S.reverse.take k).countP (·.2) + (if o then 1 else 0) := by
  have h1 := h.o2
  subst hn
  have hc := World.ownsRow.cellAt h1 k (by omega)
  have hkr : k < S.reverse.length := by simpa using hk
  refine ⟨(S.reverse[k]).2, ?_, ?_⟩
  · rw [hc, opens, ← List.map_reverse, List.getElem?_map, List.getElem?_eq_getElem hkr]
    rfl
  · rw [List.take_add_one, List.getElem?_eq_getElem hkr, List.countP_append]
    simp [List.countP_cons]
theorem Stk.pop {B : Nat} {w : World} {g1 g2 n c1 c2 : Nat} {x : Int × Bool} {r : List (Int × Bool)} (h : Stk B w (.slice (some ⟨g1, 0, none⟩) n c1) (.slice (some ⟨g2, 0, none⟩) n c2) (x :: r)) (hn : n = r.length + 1) :
    Stk B w (.slice (some ⟨g1, 0, none⟩) r.length c1) (.slice (some ⟨g2, 0, none⟩) r.length c2) r := by
  subst hn
  have h1 := h.o1
  have h2 := h.o2
  rw [lefts_cons] at h1
  rw [opens_cons] at h2
  refine ⟨row_cut h1, row_cut h2, ?_⟩
  have := h.ap
  simpa [Value.ownBlock] using this
theorem Stk.dec {B : Nat} {w : World} {g1 g2 n c1 c2 : Nat} {l : Int} {o : Bool} {r : List (Int × Bool)} (h : Stk B w (.slice (some ⟨g1, 0, none⟩) n c1) (.slice (some ⟨g2, 0, none⟩) n c2) ((l, o) :: r)) (hn : n = r.length + 1) :
    Stk B (w.setCell ⟨g1, r.length, none⟩ (.int .i64 (l - 1))) (.slice (some ⟨g1, 0, none⟩) n c1) (.slice (some ⟨g2, 0, none⟩) n c2) ((l - 1, o) :: r) := by
  have h1 := h.o1
  subst hn
  obtain ⟨k1, k2⟩ := World.ownsRow.stored h1 r.length (.int .i64 (l - 1))
  have hs : (lefts ((l, o) :: r)).set r.length (.int .i64 (l - 1)) = lefts ((l - 1, o) :: r) := by
    rw [lefts_cons, lefts_cons, List.set_append_right _ _ (by rw [lefts_len]; omega), lefts_len]
    simp
  rw [hs] at k1
  refine ⟨k1, World.ownsRow.kept h.o2 k2 ?_, h.ap⟩
  rcases h.ap with h | h
  · simp [Value.ownBlock] at h
  · exact .inr fun e => h (by rw [e]; rfl)
theorem row_cap {B : Nat} {w : World} {t : TypeId} {a : Option Addr} {n c : Nat} {xs : List Value} (h : w.ownsRow B t 1 (.slice a n c) n xs) : n ≤ c ∧ c ≤ maxLen := by
  rcases h.2 with ⟨e, rfl⟩ | ⟨g, cap, cur, e, _, _, h1, h2, _⟩
  · exact ⟨Nat.zero_le _, by injection e with _ _ e; omega⟩
  · injection e with _ _ e
    omega
theorem infoInt : (Try.prog.info? 3).map (fun i => (i.zero, i.size, i.bytes)) = some (some (.int .i64 0), 1, 8) := by kernel_rfl
theorem infoBool : (Try.prog.info? 4).map (fun i => (i.zero, i.size, i.bytes)) = some (some (.bool false), 1, 1) := by kernel_rfl
/-- a term is on the one row, not yet on the other -/
structure Mid (B : Nat) (w : World) (v1 v2 : Value) (l : Int) (S : List (Int × Bool)) : Prop where
  o1 : w.ownsRow B 3 1 v1 (S.length + 1) (lefts S ++ [.int .i64 l])
  o2 : w.ownsRow B 4 1 v2 S.length (opens S)
  ap : v1.ownBlock = none ∨ v1.ownBlock ≠ v2.ownBlock
theorem Mid.far {B : Nat} {w w' : World} {v1 v2 : Value} {l : Int} {S : List (Int × Bool)} (h : Mid B w v1 v2 l S) (hg : w.grownBy w' none) : Mid B w' v1 v2 l S :=
  ⟨World.ownsRow.kept h.o1 hg (by cases v1.ownBlock <;> simp), World.ownsRow.kept h.o2 hg (by cases v2.ownBlock <;> simp), h.ap⟩
theorem Stk.app1 {B : Nat} {w w' : World} {v1 v2 : Value} {l : Int} {S : List (Int × Bool)} {g cap : Nat} (h : Stk B w v1 v2 S) (ho : w'.ownsRow B 3 1 (.slice (some ⟨g, 0, none⟩) (S.length + 1) cap) (S.length + 1) (lefts S ++ [.int .i64 l]))
    (hg : w.grownBy w' v1.ownBlock) (hat : v1.ownBlock = some g ∨ g = w.heap.size) : Mid B w' (.slice (some ⟨g, 0, none⟩) (S.length + 1) cap) v2 l S := by
  refine ⟨ho, World.ownsRow.kept h.o2 hg ?_, ?_⟩
  · rcases h.ap with h | h
    · rw [h]; cases v2.ownBlock <;> simp
    · exact .inr (Ne.symm h)
  · refine .inr fun e => ?_
    have e2 : v2.ownBlock = some g := by rw [← e]; rfl
    rcases hat with h1 | h1
    · rcases h.ap with h | h
      · rw [h1] at h; cases h
      · exact h (by rw [h1, e2])
    · have := (World.ownsRow.lt h.o2 g e2).2
      omega
theorem Mid.app2 {B : Nat} {w w' : World} {v1 v2 : Value} {l : Int} {o : Bool} {S : List (Int × Bool)} {g cap : Nat} (h : Mid B w v1 v2 l S) (ho : w'.ownsRow B 4 1 (.slice (some ⟨g, 0, none⟩) (S.length + 1) cap) (S.length + 1) (opens S ++ [.bool o]))
    (hg : w.grownBy w' v2.ownBlock) (hat : v2.ownBlock = some g ∨ g = w.heap.size) : Stk B w' v1 (.slice (some ⟨g, 0, none⟩) (S.length + 1) cap) ((l, o) :: S) := by
  refine ⟨?_, ?_, ?_⟩
  · rw [lefts_cons]
    refine World.ownsRow.kept h.o1 hg ?_
    rcases h.ap with h | h
    · exact .inl h
    · exact .inr h
  · rw [opens_cons]
    exact ho
  · cases h1 : v1.ownBlock with
    | none => exact .inl rfl
    | some k =>
      refine .inr fun e => ?_
      have e2 : k = g := by injection e
      subst e2
      rcases hat with h2 | h2
      · rcases h.ap with h | h
        · rw [h1] at h; cases h
        · exact h (by rw [h1, h2])
      · have := (World.ownsRow.lt h.o1 k h1).2
        omega
end Go.Proofs.Ytbcndmlhbdanaaa
