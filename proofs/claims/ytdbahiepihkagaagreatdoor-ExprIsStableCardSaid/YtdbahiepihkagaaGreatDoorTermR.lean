/- What Arity, Aggregate and End of the specification of layer 5 answer. -/
import Derived.RangeFuncNested
import Derived.RangeFuncBox
import Derived.RangeFuncBound
import Derived.RangeFuncCalls
import Derived.RangeFuncLeaves
import Derived.Shelf.Abstract
import Derived.Shelf.RegionOpen
import Derived.WalkKit
import Derived.OwnWalkIn
import Derived.TacticsInMore
import Derived.TacticsIn
import Derived.RegionIn
import Derived.LoopNIn
import Derived.LoopIn
import Derived.Maps.AppendAt
import Derived.Test.YtdbahiepihkagaaGreatDoorBase
namespace Go.Proofs.YtdbahiepihkagaaGreatDoor
set_option maxRecDepth 100000
open Go.RowKit Go.Shelf

/-- an iterator that makes m rounds, one for each number -/
def Rounds (F : Fence) (n : Nat) (P : Program) (gf : Nat) (lb : Array Value) (enc : Nat → Array Value) (m : Nat) (Kp : World → World → Prop) (w : World) : Prop :=
  ∀ (l : Nat) (J : Nat → World → Prop) (W : World), Below w.heap.size w W →
    (∀ k X, k < m → J k X → YieldAt F (n - 1) P l (enc k) X fun e Y => e = .returned (.bool true) ∧ J (k + 1) Y ∧ Kp X Y) → J 0 W →
    CallsIn F n P gf (#[.func (.yield l) #[] #[]] ++ lb) W fun e Y => (∃ v, e = .returned v) ∧ J m Y

/-- a round's end: it has come to the end of the body -/
def roundEnd (R : World → Prop) : Exit → Act → World → Prop
  | .normal, _, W => R W
  | _, _, _ => False

theorem range_rounds {F : Fence} {n : Nat} {P : Program} {g : Operand} {ps : Array Tmp} {assign body : Code} {Q : Exit → Act → World → Prop} {a : Act} {w : World}
    (hro : F.round = none) (h1 : 1 ≤ n) {gf : Nat} {lb : Array Value} (hg : a.eval g = .func (.func gf) #[] lb) (hFg : F.fn gf) (eg : ∀ args w, (callFunc gf args).run P w = .ok (.enter gf args) w)
    {enc : Nat → Array Value} {m : Nat} {Kp : World → World → Prop} (hseq : Rounds F (n - 1) P gf lb enc m Kp w) (hps : ∀ k, (enc k).size = ps.size)
    (hKt : ∀ {X Y Z : World}, Kp X Y → Kp Y Z → Kp X Z) (hKb : ∀ (W : World) (l : Nat) (o o' : Obj), w.heap.size ≤ l → W.heap[l]? = some o → o.isCells = false → o.isWalk = false → Kp W (W.putObj l o'))
    (I : Nat → World → Prop) (hI : OwnFrom w.heap.size I) (h0 : I 0 w) (Ax : Nat → Act → World → Prop) (hAx : ∀ k a', OwnFrom w.heap.size (fun (_ : Unit) W => Ax k a' W))
    (hassign : ∀ (l k : Nat) (W : World) (K : Act → World → Prop), k < m → I k W → (∀ a' Y, KeepsFrom w.heap.size W Y → Kp W Y → I k Y → Ax k a' Y → K a' Y) →
      assign.wpIn (F.inRound l) (n - 1 - 1) P (Exit.then K (fun _ _ _ => False)) { tmps := (ps.zip (enc k)).foldl (fun t (p, v) => t.setIfInBounds p v) a.tmps, defers := [] } W)
    (hbody : ∀ (l k : Nat) (a' : Act) (W : World), k < m → I k W → Ax k a' W → body.wpIn (F.inRound l) (n - 1 - 1) P (roundEnd fun Y => KeepsFrom w.heap.size W Y ∧ Kp W Y ∧ I (k + 1) Y) a' W)
    (hdone : ∀ (D : Nat) (W : World), w.heap.size ≤ D → I m W → W.heap[D]? = some (.deferred (some [])) → Q .normal { a with defers := { target := .collected D, args := #[] } :: a.defers } W) :
    (Code.rangeFunc g ps assign body).wpIn F n P Q a w := by
  refine wpIn_rangeFunc fun fn hfn => ?_
  rw [hro]
  have hsz : ((w.alloc (.deferred (some []))).alloc (.loop { state := .ready, pending := none, fn := fn, tmps := a.tmps, params := ps, assign := assign, body := body, defers := w.heap.size })).heap.size = w.heap.size + 2 := by simp
  have hfirst : ((w.alloc (.deferred (some []))).alloc (.loop { state := .ready, pending := none, fn := fn, tmps := a.tmps, params := ps, assign := assign, body := body, defers := w.heap.size })).heap[w.heap.size]? = some (.deferred (some [])) :=
    (Below.heap_alloc _ _ _ (by simp)).trans (World.alloc_heap_new w _)
  have hsecond : ((w.alloc (.deferred (some []))).alloc (.loop { state := .ready, pending := none, fn := fn, tmps := a.tmps, params := ps, assign := assign, body := body, defers := w.heap.size })).heap[w.heap.size + 1]? = some (.loop { state := .ready, pending := none, fn := fn, tmps := a.tmps, params := ps, assign := assign, body := body, defers := w.heap.size }) := by
    have h := World.alloc_heap_new (w.alloc (.deferred (some []))) (.loop { state := .ready, pending := none, fn := fn, tmps := a.tmps, params := ps, assign := assign, body := body, defers := w.heap.size })
    rwa [World.size_alloc] at h
  have hbel : Below w.heap.size w ((w.alloc (.deferred (some []))).alloc (.loop { state := .ready, pending := none, fn := fn, tmps := a.tmps, params := ps, assign := assign, body := body, defers := w.heap.size })) :=
    ((Below.refl _ w).alloc (Nat.le_refl _) _).alloc (by simp) _
  have hstart : I 0 ((w.alloc (.deferred (some []))).alloc (.loop { state := .ready, pending := none, fn := fn, tmps := a.tmps, params := ps, assign := assign, body := body, defers := w.heap.size })) := hI.alloc _ (hI.alloc _ h0)
  have henter := run_enterLoop_outer (P := P) (w := w) fn a.tmps ps assign body
  generalize (w.alloc (.deferred (some []))).alloc (.loop { state := .ready, pending := none, fn := fn, tmps := a.tmps, params := ps, assign := assign, body := body, defers := w.heap.size }) = V at hsz hfirst hsecond hbel hstart henter
  refine ⟨_, _, V, { target := .fn (.func gf) lb, args := #[.func (.yield (w.heap.size + 1)) #[] #[]] }, V, gf, #[.func (.yield (w.heap.size + 1)) #[] #[]] ++ lb, V, henter, ?_, ?_, ?_, fun _ => h1, ?_⟩
  · simp only [resolve, hg]
    simp [go_sem]
  · intro f' hf'
    simp [Target.leads] at hf'
    subst hf'
    exact hFg
  · simp [invoke, go_sem, eg]
  -- the record as it lies between two rounds, and amid one
  obtain ⟨rec, hrec⟩ : ∃ rec : Loop, rec = { state := .ready, pending := none, fn := fn, tmps := a.tmps, params := ps, assign := assign, body := body, defers := w.heap.size } := ⟨_, rfl⟩
  rw [← hrec] at hsecond
  refine (hseq (w.heap.size + 1) (fun k X => I k X ∧ X.heap[w.heap.size + 1]? = some (.loop rec) ∧ X.heap[w.heap.size]? = some (.deferred (some []))) V hbel ?_ ⟨hstart, hsecond, hfirst⟩).mono ?_
  · rintro k X hk ⟨hIX, hLX, hDX⟩
    have hy := run_yield (P := P) (args := enc k) hLX (by rw [hrec]; exact hps k)
    have hst : rec.state = .ready := by rw [hrec]
    have hpe : rec.pending = none := by rw [hrec]
    have hyy : (Instr.yield (w.heap.size + 1) (enc k)).run P X = .ok (.round (w.heap.size + 1) fn ((ps.zip (enc k)).foldl (fun t (p, v) => t.setIfInBounds p v) a.tmps) assign body) X := by rw [hy, hrec]
    refine ⟨fn, _, assign, body, hyy, roundIn_of_wpIn hfn (hassign _ k X _ hk hIX ?_)⟩
    intro a' Y hF1 hK1 hIY hAY
    have hLY := hF1.same _ _ (by omega) hLX rfl
    have hDY := hF1.same _ _ (Nat.le_refl _) hDX rfl
    have hltY : w.heap.size + 1 < Y.heap.size := (Array.getElem?_eq_some_iff.1 hLY).1
    have hLZ : (Y.putObj (w.heap.size + 1) (.loop { rec with state := .busy })).heap[w.heap.size + 1]? = some (.loop { rec with state := .busy }) := World.putObj_heap_same hltY
    have hDZ : (Y.putObj (w.heap.size + 1) (.loop { rec with state := .busy })).heap[w.heap.size]? = some (.deferred (some [])) := (World.putObj_heap_other (by omega)).trans hDY
    have hKZ : Kp Y (Y.putObj (w.heap.size + 1) (.loop { rec with state := .busy })) := hKb _ _ _ _ (by omega) hLY rfl rfl
    refine ⟨_, run_beginRound hLY hst, wpIn_mono (hbody _ k a' _ hk (hI.putObj _ hIY (by omega) hLY rfl) ((hAx k a').putObj (s := ()) _ hAY (by omega) hLY rfl)) ?_⟩
    intro e a2 U hU
    cases e with
    | normal =>
      obtain ⟨hF2, hK2, hI2⟩ := hU
      have hLU := hF2.same _ _ (by omega) hLZ rfl
      have hDU := hF2.same _ _ (Nat.le_refl _) hDZ rfl
      have hend := run_endRound (P := P) none hLU
      have hback : ({ ({ rec with state := .busy } : Loop) with state := if (none : Option Code).isNone = true then .ready else .done, pending := none } : Loop) = rec := by rw [hrec]; rfl
      rw [hback] at hend
      exact ⟨_, _, hend, rfl, ⟨hI.putObj _ hI2 (by omega) hLU rfl, World.putObj_heap_same (Array.getElem?_eq_some_iff.1 hLU).1, (World.putObj_heap_other (by omega)).trans hDU⟩, hKt hK1 (hKt hKZ (hKt hK2 (hKb _ _ _ _ (by omega) hLU rfl rfl)))⟩
    | _ => exact hU.elim
  · rintro e X ⟨⟨v, rfl⟩, hIX, hLX, hDX⟩
    have hend := run_endLoop (P := P) hLX (by rw [hrec]; simp)
    have hpe : rec.pending = none := by rw [hrec]
    rw [hpe] at hend
    exact ⟨none, _, hend, hdone _ _ (Nat.le_refl _) (hI.putObj _ hIX (by omega) hLX rfl) ((World.putObj_heap_other (by omega)).trans hDX)⟩
end Go.Proofs.YtdbahiepihkagaaGreatDoor
namespace Go.Proofs.YtdbahiepihkagaaGreatDoor

/-- the number of operands of an operation; -1 if it is none -/
def arF (op : Int) : Int := if 1 ≤ op ∧ op ≤ 17 then 0 else if 18 ≤ op ∧ op ≤ 29 then 1 else if 30 ≤ op ∧ op ≤ 42 then 2 else if op = 43 then 3 else -1
theorem arF_le (op : Int) : -1 ≤ arF op ∧ arF op ≤ 3 := by unfold arF; repeat' split <;> omega
/-- whether an operation is an aggregate -/
def aggF (op : Int) : Bool := decide (20 ≤ op ∧ op ≤ 29)

/-- how many terms of a list so many expressions take, one behind the other -/
def eat : List (Int × Int) → Nat → Option Nat
  | _, 0 => some 0
  | [], _ + 1 => none
  | t :: ts, w + 1 => if arF t.1 < 0 then none else (eat ts (w + (arF t.1).toNat)).map (· + 1)
theorem eat_zero (ts : List (Int × Int)) : eat ts 0 = some 0 := by cases ts <;> rfl
theorem eat_nil (w : Nat) : eat [] (w + 1) = none := rfl
theorem eat_cons (t : Int × Int) (ts : List (Int × Int)) (w : Nat) : eat (t :: ts) (w + 1) = if arF t.1 < 0 then none else (eat ts (w + (arF t.1).toNat)).map (· + 1) := rfl
theorem eat_add : ∀ (ts : List (Int × Int)) (a b : Nat), eat ts (a + b) = (eat ts a).bind fun n => (eat (ts.drop n) b).map (n + ·)
  | ts, 0, b => by
    rw [eat_zero, Nat.zero_add]
    simp
  | [], a + 1, b => by
    rw [show a + 1 + b = (a + b) + 1 by omega, eat_nil, eat_nil]
    rfl
  | t :: ts, a + 1, b => by
    rw [show a + 1 + b = (a + b) + 1 by omega, eat_cons, eat_cons]
    split
    · rfl
    · rw [show a + b + (arF t.1).toNat = (a + (arF t.1).toNat) + b by omega, eat_add ts _ b]
      cases eat ts (a + (arF t.1).toNat) with
      | none => rfl
      | some n =>
        simp only [Option.bind_some, Option.map_some, List.drop_succ_cons, Option.map_map]
        congr 1
        funext x
        simp
        omega
theorem eat_le : ∀ {ts : List (Int × Int)} {w n : Nat}, eat ts w = some n → w ≤ n ∧ n ≤ ts.length
  | ts, 0, n, h => by
    rw [eat_zero] at h
    cases h
    omega
  | [], w + 1, n, h => by rw [eat_nil] at h; cases h
  | t :: ts, w + 1, n, h => by
    rw [eat_cons] at h
    split at h
    · cases h
    · cases hk : eat ts (w + (arF t.1).toNat) with
      | none => rw [hk] at h; cases h
      | some m =>
        rw [hk] at h
        have e : m + 1 = n := by simpa using h
        have := eat_le hk
        simp
        omega
theorem eat_part : ∀ {ts : List (Int × Int)} {w n : Nat} (us : List (Int × Int)), eat ts w = some n → eat (ts ++ us) w = some n
  | ts, 0, n, us, h => by
    rw [eat_zero] at h ⊢
    exact h
  | [], w + 1, n, us, h => by rw [eat_nil] at h; cases h
  | t :: ts, w + 1, n, us, h => by
    rw [eat_cons] at h
    rw [List.cons_append, eat_cons]
    split at h
    · cases h
    · rename_i hk
      rw [if_neg hk]
      cases hm : eat ts (w + (arF t.1).toNat) with
      | none => rw [hm] at h; cases h
      | some m =>
        rw [hm] at h
        rw [eat_part us hm]
        exact h
theorem eat_take : ∀ {ts : List (Int × Int)} {w n : Nat}, eat ts w = some n → eat (ts.take n) w = some n
  | ts, 0, n, h => by
    rw [eat_zero] at h ⊢
    exact h
  | [], w + 1, n, h => by rw [eat_nil] at h; cases h
  | t :: ts, w + 1, n, h => by
    rw [eat_cons] at h
    split at h
    · cases h
    · rename_i hk
      cases hm : eat ts (w + (arF t.1).toNat) with
      | none => rw [hm] at h; cases h
      | some m =>
        rw [hm] at h
        have e : m + 1 = n := by simpa using h
        subst e
        rw [List.take_succ_cons, eat_cons, if_neg hk, eat_take hm]
        rfl

/-- the place behind the expression that begins at a place; -1 if none does -/
def endF (xs : List (Int × Int)) (p : Int) : Int :=
  if 0 ≤ p ∧ p < xs.length then (match eat (xs.drop p.toNat) 1 with
    | some n => p + n
    | none => -1) else -1
theorem endF_out {xs : List (Int × Int)} {p : Int} (h : ¬ (0 ≤ p ∧ p < xs.length)) : endF xs p = -1 := by unfold endF; rw [if_neg h]
theorem endF_none {xs : List (Int × Int)} {p : Nat} (h : eat (xs.drop p) 1 = none) : endF xs p = -1 := by
  unfold endF
  split
  · rw [Int.toNat_natCast, h]
  · rfl
theorem endF_some {xs : List (Int × Int)} {p n : Nat} (h : eat (xs.drop p) 1 = some n) : endF xs p = (p + n : Nat) := by
  have hl := eat_le h
  rw [List.length_drop] at hl
  unfold endF
  rw [if_pos (by omega), Int.toNat_natCast, h]
  simp
theorem endF_le (xs : List (Int × Int)) (p : Int) : -1 ≤ endF xs p ∧ endF xs p ≤ xs.length := by
  unfold endF
  split
  · rename_i h
    split
    · rename_i n hn
      have hl := eat_le hn
      rw [List.length_drop] at hl
      omega
    · omega
  · omega
/-- what is known amid the count: i terms are read, w expressions are wanted -/
def Amid (xs : List (Int × Int)) (p i w : Nat) : Prop := p ≤ i ∧ i ≤ xs.length ∧ eat (xs.drop p) 1 = (eat (xs.drop i) (w + 1)).map (· + (i - p))
theorem Amid.start {xs : List (Int × Int)} {p : Nat} (h : p ≤ xs.length) : Amid xs p p 0 := ⟨Nat.le_refl _, h, by simp⟩
theorem drop_tm {xs : List (Int × Int)} {i : Nat} (h : i < xs.length) : xs.drop i = (toA xs i, wtA xs i) :: xs.drop (i + 1) := by
  simp [toA, wtA, h]
  exact List.drop_eq_getElem_cons h
theorem Amid.bad {xs : List (Int × Int)} {p i w : Nat} (h : Amid xs p i w) (hi : i < xs.length) (ha : arF (toA xs i) < 0) : endF xs p = -1 := by
  obtain ⟨h1, h2, h3⟩ := h
  rw [drop_tm hi, eat_cons, if_pos ha] at h3
  exact endF_none h3
theorem Amid.over {xs : List (Int × Int)} {p w : Nat} (h : Amid xs p xs.length w) : endF xs p = -1 := by
  obtain ⟨h1, h2, h3⟩ := h
  rw [List.drop_length, eat_nil] at h3
  exact endF_none h3
theorem Amid.found {xs : List (Int × Int)} {p i : Nat} (h : Amid xs p i 0) (hi : i < xs.length) (ha : arF (toA xs i) = 0) : endF xs p = (i + 1 : Nat) := by
  obtain ⟨h1, h2, h3⟩ := h
  rw [drop_tm hi, eat_cons, if_neg (by dsimp only; omega), show (0 : Nat) + (arF (toA xs i, wtA xs i).1).toNat = 0 by dsimp only; omega, eat_zero] at h3
  simp only [Option.map_some] at h3
  rw [endF_some h3]
  omega
theorem Amid.next {xs : List (Int × Int)} {p i w v : Nat} (h : Amid xs p i w) (hi : i < xs.length) (ha : 0 ≤ arF (toA xs i)) (hv : (v : Int) + 1 = w + arF (toA xs i)) : Amid xs p (i + 1) v := by
  obtain ⟨h1, h2, h3⟩ := h
  refine ⟨by omega, hi, ?_⟩
  rw [h3, drop_tm hi, eat_cons, if_neg (by dsimp only; omega), show w + (arF (toA xs i, wtA xs i).1).toNat = v + 1 by dsimp only; omega, Option.map_map]
  congr 1
  funext x
  simp
  omega

/-- whether a list is one expression -/
def oneB (xs : List (Int × Int)) : Bool := decide (0 < xs.length ∧ endF xs 0 = xs.length)
/-- the place of an operand, if there is one -/
def placeF (xs : List (Int × Int)) (p : Int) : Nat → Int
  | 0 => p + 1
  | k + 1 => endF xs (placeF xs p k)
def opdF (xs : List (Int × Int)) (p k : Int) : Int := if endF xs p < 0 ∨ k < 0 ∨ arF (toA xs p.toNat) ≤ k then -1 else placeF xs p k.toNat
theorem endF_in {xs : List (Int × Int)} {p : Int} (h : ¬ endF xs p < 0) : 0 ≤ p ∧ p < xs.length := by
  by_cases hp : 0 ≤ p ∧ p < xs.length
  · exact hp
  · rw [endF_out hp] at h
    omega
theorem placeF_le {xs : List (Int × Int)} {p : Int} (hp : 0 ≤ p ∧ p < xs.length) : ∀ k, -1 ≤ placeF xs p k ∧ placeF xs p k ≤ xs.length
  | 0 => by unfold placeF; omega
  | k + 1 => endF_le xs _
/-- whether an argument is permitted -/
def argB (t : Int × Int) (vars : Int) : Bool :=
  if t.1 = 1 then decide (0 ≤ t.2 ∧ t.2 ≤ 1073741824) else if t.1 = 5 ∨ t.1 = 12 then decide (0 ≤ t.2 ∧ t.2 < vars) else decide (t.2 = 0)
theorem terms_ext {xs ys : List (Int × Int)} (hl : xs.length = ys.length) (h : ∀ i, i < xs.length → toA xs i = toA ys i ∧ wtA xs i = wtA ys i) : xs = ys := by
  apply List.ext_getElem hl
  intro i h1 h2
  have := h i h1
  simp only [toA, wtA, List.getD, List.getElem?_eq_getElem h1, List.getElem?_eq_getElem h2, Option.getD_some] at this
  exact Prod.ext this.1 this.2
end Go.Proofs.YtdbahiepihkagaaGreatDoor
namespace Go.Proofs.YtdbahiepihkagaaGreatDoor
open Go.RowKit

set_option linter.unusedSimpArgs false in
theorem arityR_any (op : Int) (w : World) : Calls Tryz.prog 46 #[.int .i64 op] w fun e w' => e = .returned (.int .i64 (arF op)) ∧ w' = w := by
  by_cases h1 : 1 ≤ op
  all_goals by_cases h2 : op ≤ 17
  all_goals by_cases h3 : 18 ≤ op
  all_goals by_cases h4 : op ≤ 29
  all_goals by_cases h5 : 30 ≤ op
  all_goals by_cases h6 : op ≤ 42
  all_goals by_cases h7 : op = 43
  all_goals first
    | omega
    | (have h9 : arF op = arF op := rfl
       conv at h9 => rhs; unfold arF
       simp only [h1, h2, h3, h4, h5, h6, h7, and_true, true_and, and_false, false_and, if_true, if_false] at h9
       go_enter Tryz.func46, Tryz.ntmps46
       go_wp2
       go_ret
       exact ⟨rfl, rfl⟩)
theorem aggR_any (op : Int) (w : World) : Calls Tryz.prog 94 #[.int .i64 op] w fun e w' => e = .returned (.bool (aggF op)) ∧ w' = w := by
  unfold aggF
  by_cases h1 : 20 ≤ op
  all_goals by_cases h2 : op ≤ 29
  all_goals first
    | omega
    | (go_enter Tryz.func94, Tryz.ntmps94
       go_wp2
       go_ret
       exact ⟨ret_bool (by rw [Bool.eq_iff_iff] <;> simp <;> omega), rfl⟩)

set_option maxHeartbeats 1000000 in
theorem endR_any (a : Option Addr) (c : Nat) (xs : List (Int × Int)) (p : Int) (w : World) (hX : LinksAt w a xs) (hn : xs.length ≤ 1000000) :
    Calls Tryz.prog 45 #[.slice a xs.length c, .int .i64 p] w fun e w' => e = .returned (.int .i64 (endF xs p)) ∧ Below w.heap.size w w' := by
  by_cases h0 : 0 ≤ p
  case neg =>
    have he : endF xs p = -1 := endF_out (by omega)
    generalize endF xs p = z at he ⊢
    subst he
    generalize xs.length = m
    clear hX hn
    go_enter Tryz.func45, Tryz.ntmps45
    go_wp2
    go_ret
    exact ⟨rfl, by first | exact Below.refl _ _ | exact belDraws (Below.refl _ _) _⟩
  obtain ⟨q, rfl⟩ : ∃ q : Nat, p = q := ⟨p.toNat, by omega⟩
  by_cases h1 : q < xs.length
  case neg =>
    have he : endF xs q = -1 := endF_out (by omega)
    rw [he]
    clear he hX hn
    generalize xs.length = m at h1 ⊢
    have d1 : decide ((q : Int) ≥ m) = true := by simp; omega
    go_enter Tryz.func45, Tryz.ntmps45
    go_wp2
    go_ret
    exact ⟨rfl, by first | exact Below.refl _ _ | exact belDraws (Below.refl _ _) _⟩
  obtain ⟨b, o, rfl, hb, hc⟩ := hX.row (by omega)
  have HC := Lib.hid hc
  have hst := Amid.start (xs := xs) (p := q) (Nat.le_of_lt h1)
  have HSt := Lib.hid hst
  obtain ⟨m, hm⟩ : ∃ m, m = xs.length := ⟨_, rfl⟩
  have HM := Lib.hid hm
  rw [← hm] at h1 hn ⊢
  clear hc hst hX hm
  have d1 : decide ((q : Int) ≥ m) = false := by simp; omega
  have d2 : decide (m ≤ q) = false := by simp; omega
  have d3 : decide ((q : Int) < 0) = false := by simp
  go_enter Tryz.func45, Tryz.ntmps45
  go_wp2
  go_loopw [5, 6] (fun s t wr => ∃ i v : Nat, s = .int .i64 ((v : Int) + 1) ∧ t = .int .i64 i ∧ v ≤ 2 * i ∧ Amid xs q i v ∧ Below w.heap.size w wr) (fun _ t _ => m - (intOf t).toNat)
  case atStart => exact ⟨q, 0, rfl, rfl, by omega, HSt.out, by first | exact Below.refl _ _ | exact belDraws (Below.refl _ _) _⟩
  case round =>
    obtain ⟨i, v, rfl, rfl, hv, hA, hbr⟩ := hrel
    have HA := Lib.hid hA
    have HBr := Lib.hid hbr
    have hi := hA.2.1
    rw [← HM.out] at hi
    clear hA hbr
    by_cases hlt : i < m
    · have hxl : i < xs.length := by rw [← HM.out]; exact hlt
      have c0 := (HBr.out.cell (p := ⟨b, o + i * 2, none⟩) hb).trans (HC.out i hxl).1
      have hak := arF_le (toA xs i)
      have HN : Hid (∀ n : Nat, 0 ≤ arF (toA xs i) → (n : Int) + 1 = v + arF (toA xs i) → Amid xs q (i + 1) n) := Lib.hid (fun n => HA.out.next (v := n) hxl)
      have HB := Lib.hid (HA.out.bad hxl)
      have HF : Hid (v = 0 → arF (toA xs i) = 0 → endF xs q = (i + 1 : Nat)) := Lib.hid (fun h0 ha => by subst h0; exact HA.out.found hxl ha)
      generalize toA xs i = op at c0 hak HN HB HF
      have hi0 : (0 : Int) ≤ i := by omega
      have hi1 : (i : Int) < m := by omega
      obtain ⟨k, hk⟩ : ∃ k, arF op = k := ⟨_, rfl⟩
      rw [hk] at hak HN HB HF
      have HK := Lib.hid hk
      clear hk
      by_cases hk0 : 0 ≤ k
      · obtain ⟨n, rfl⟩ : ∃ n : Nat, k = n := ⟨k.toNat, by omega⟩
        have n0 : decide ((n : Int) < 0) = false := by simp
        by_cases hz : v = 0 ∧ n = 0
        · obtain ⟨rfl, rfl⟩ := hz
          have he := HF.out rfl rfl
          clear HN HB HF HSt
          go_wp2_with (go_at_call 46; refine (arityR_any op _).mono ?_; rintro e w1 ⟨rfl, rfl⟩; rw [HK.out])
          go_ret
          exact ⟨ret_int (by rw [he]; simp), by first | exact HBr.out | exact belDraws HBr.out _⟩
        · have hA2 := HN.out (v + n - 1) (by omega) (by omega)
          have hz2 : ((v : Int) + 1 + ((n : Int) - 1) == 0) = false := by rw [beq_eq_false_iff_ne]; omega
          have hz3 : (v : Int) + 1 + ((n : Int) - 1) = ((v + n - 1 : Nat) : Int) + 1 := by omega
          clear HN HB HF HSt
          go_wp2_with (go_at_call 46; refine (arityR_any op _).mono ?_; rintro e w1 ⟨rfl, rfl⟩; rw [HK.out])
          go_roundw
          case rel =>
            exact ⟨i + 1, v + n - 1, rfl, by go_num, by omega, hA2, by first | exact HBr.out | exact belDraws HBr.out _⟩
          case measure => simp [intOf]; omega
      · have he := HB.out (by omega)
        have n0 : decide (k < 0) = true := by simp; omega
        clear HN HB HF HSt
        go_wp2_with (go_at_call 46; refine (arityR_any op _).mono ?_; rintro e w1 ⟨rfl, rfl⟩; rw [HK.out])
        go_ret
        exact ⟨ret_int he.symm, by first | exact HBr.out | exact belDraws HBr.out _⟩
    · obtain rfl : i = m := by omega
      have he : endF xs q = -1 := by
        have h := HA.out
        rw [HM.out] at h
        exact h.over
      clear HSt
      go_wp2
      go_ret
      exact ⟨ret_int he.symm, by first | exact HBr.out | exact belDraws HBr.out _⟩
end Go.Proofs.YtdbahiepihkagaaGreatDoor
