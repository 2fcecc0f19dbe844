/- A loop over an iterator whose rounds are counted: the round with the number k is given what belongs to k, and none of them leaves the loop. -/
import Derived.RangeFuncNested
import Derived.RangeFuncBox
import Derived.RangeFuncBound
import Derived.RangeFuncCalls
import Derived.RangeFuncLeaves
import Derived.Shelf.Abstract
import Derived.Shelf.RegionOpen
import Derived.WalkKit
import Derived.OwnWalkIn
import Derived.TacticsInMore
import Derived.TacticsIn
import Derived.RegionIn
import Derived.LoopNIn
import Derived.LoopIn
import Derived.Maps.AppendAt
import Derived.Test.YtbcndmlhbdanaaaBase
namespace Go.Proofs.Ytbcndmlhbdanaaa
open Go.RowKit Go.Shelf

/-- an iterator that makes m rounds, one for each number -/
def Rounds (F : Fence) (n : Nat) (P : Program) (gf : Nat) (lb : Array Value) (enc : Nat → Array Value) (m : Nat) (Kp : World → World → Prop) (w : World) : Prop :=
  ∀ (l : Nat) (J : Nat → World → Prop) (W : World), Below w.heap.size w W →
    (∀ k X, k < m → J k X → YieldAt F (n - 1) P l (enc k) X fun e Y => e = .returned (.bool true) ∧ J (k + 1) Y ∧ Kp X Y) → J 0 W →
    CallsIn F n P gf (#[.func (.yield l) #[] #[]] ++ lb) W fun e Y => (∃ v, e = .returned v) ∧ J m Y

/-- a round's end: it has come to the end of the body -/
def roundEnd (R : World → Prop) : Exit → Act → World → Prop
  | .normal, _, W => R W
  | _, _, _ => False

theorem range_rounds {F : Fence} {n : Nat} {P : Program} {g : Operand} {ps : Array Tmp} {assign body : Code} {Q : Exit → Act → World → Prop} {a : Act} {w : World}
    (hro : F.round = none) (h1 : 1 ≤ n) {gf : Nat} {lb : Array Value} (hg : a.eval g = .func (.func gf) #[] lb) (hFg : F.fn gf) (eg : ∀ args w, (callFunc gf args).run P w = .ok (.enter gf args) w)
    {enc : Nat → Array Value} {m : Nat} {Kp : World → World → Prop} (hseq : Rounds F (n - 1) P gf lb enc m Kp w) (hps : ∀ k, (enc k).size = ps.size)
    (hKt : ∀ {X Y Z : World}, Kp X Y → Kp Y Z → Kp X Z) (hKb : ∀ (W : World) (l : Nat) (o o' : Obj), w.heap.size ≤ l → W.heap[l]? = some o → o.isCells = false → o.isWalk = false → Kp W (W.putObj l o'))
    (I : Nat → World → Prop) (hI : OwnFrom w.heap.size I) (h0 : I 0 w) (Ax : Nat → Act → World → Prop) (hAx : ∀ k a', OwnFrom w.heap.size (fun (_ : Unit) W => Ax k a' W))
    (hassign : ∀ (l k : Nat) (W : World) (K : Act → World → Prop), k < m → I k W → (∀ a' Y, KeepsFrom w.heap.size W Y → Kp W Y → I k Y → Ax k a' Y → K a' Y) →
      assign.wpIn (F.inRound l) (n - 1 - 1) P (Exit.then K (fun _ _ _ => False)) { tmps := (ps.zip (enc k)).foldl (fun t (p, v) => t.setIfInBounds p v) a.tmps, defers := [] } W)
    (hbody : ∀ (l k : Nat) (a' : Act) (W : World), k < m → I k W → Ax k a' W → body.wpIn (F.inRound l) (n - 1 - 1) P (roundEnd fun Y => KeepsFrom w.heap.size W Y ∧ Kp W Y ∧ I (k + 1) Y) a' W)
    (hdone : ∀ (D : Nat) (W : World), w.heap.size ≤ D → I m W → W.heap[D]? = some (.deferred (some [])) → Q .normal { a with defers := { target := .collected D, args := #[] } :: a.defers } W) :
    (Code.rangeFunc g ps assign body).wpIn F n P Q a w := by
  refine wpIn_rangeFunc fun fn hfn => ?_
  rw [hro]
  have hsz : ((w.alloc (.deferred (some []))).alloc (.loop { state := .ready, pending := none, fn := fn, tmps := a.tmps, params := ps, assign := assign, body := body, defers := w.heap.size })).heap.size = w.heap.size + 2 := by simp
  have hfirst : ((w.alloc (.deferred (some []))).alloc (.loop { state := .ready, pending := none, fn := fn, tmps := a.tmps, params := ps, assign := assign, body := body, defers := w.heap.size })).heap[w.heap.size]? = some (.deferred (some [])) :=
    (Below.heap_alloc _ _ _ (by simp)).trans (World.alloc_heap_new w _)
  have hsecond : ((w.alloc (.deferred (some []))).alloc (.loop { state := .ready, pending := none, fn := fn, tmps := a.tmps, params := ps, assign := assign, body := body, defers := w.heap.size })).heap[w.heap.size + 1]? = some (.loop { state := .ready, pending := none, fn := fn, tmps := a.tmps, params := ps, assign := assign, body := body, defers := w.heap.size }) := by
    have h := World.alloc_heap_new (w.alloc (.deferred (some []))) (.loop { state := .ready, pending := none, fn := fn, tmps := a.tmps, params := ps, assign := assign, body := body, defers := w.heap.size })
    rwa [World.size_alloc] at h
  have hbel : Below w.heap.size w ((w.alloc (.deferred (some []))).alloc (.loop { state := .ready, pending := none, fn := fn, tmps := a.tmps, params := ps, assign := assign, body := body, defers := w.heap.size })) :=
    ((Below.refl _ w).alloc (Nat.le_refl _) _).alloc (by simp) _
  have hstart : I 0 ((w.alloc (.deferred (some []))).alloc (.loop { state := .ready, pending := none, fn := fn, tmps := a.tmps, params := ps, assign := assign, body := body, defers := w.heap.size })) := hI.alloc _ (hI.alloc _ h0)
  have henter := run_enterLoop_outer (P := P) (w := w) fn a.tmps ps assign body
  generalize (w.alloc (.deferred (some []))).alloc (.loop { state := .ready, pending := none, fn := fn, tmps := a.tmps, params := ps, assign := assign, body := body, defers := w.heap.size }) = V at hsz hfirst hsecond hbel hstart henter
  refine ⟨_, _, V, { target := .fn (.func gf) lb, args := #[.func (.yield (w.heap.size + 1)) #[] #[]] }, V, gf, #[.func (.yield (w.heap.size + 1)) #[] #[]] ++ lb, V, henter, ?_, ?_, ?_, fun _ => h1, ?_⟩
  · simp only [resolve, hg]
    simp [go_sem]
  · intro f' hf'
    simp [Target.leads] at hf'
    subst hf'
    exact hFg
  · simp [invoke, go_sem, eg]
  -- the record as it lies between two rounds, and amid one
  obtain ⟨rec, hrec⟩ : ∃ rec : Loop, rec = { state := .ready, pending := none, fn := fn, tmps := a.tmps, params := ps, assign := assign, body := body, defers := w.heap.size } := ⟨_, rfl⟩
  rw [← hrec] at hsecond
  refine (hseq (w.heap.size + 1) (fun k X => I k X ∧ X.heap[w.heap.size + 1]? = some (.loop rec) ∧ X.heap[w.heap.size]? = some (.deferred (some []))) V hbel ?_ ⟨hstart, hsecond, hfirst⟩).mono ?_
  · rintro k X hk ⟨hIX, hLX, hDX⟩
    have hy := run_yield (P := P) (args := enc k) hLX (by rw [hrec]; exact hps k)
    have hst : rec.state = .ready := by rw [hrec]
    have hpe : rec.pending = none := by rw [hrec]
    have hyy : (Instr.yield (w.heap.size + 1) (enc k)).run P X = .ok (.round (w.heap.size + 1) fn ((ps.zip (enc k)).foldl (fun t (p, v) => t.setIfInBounds p v) a.tmps) assign body) X := by rw [hy, hrec]
    refine ⟨fn, _, assign, body, hyy, roundIn_of_wpIn hfn (hassign _ k X _ hk hIX ?_)⟩
    intro a' Y hF1 hK1 hIY hAY
    have hLY := hF1.same _ _ (by omega) hLX rfl
    have hDY := hF1.same _ _ (Nat.le_refl _) hDX rfl
    have hltY : w.heap.size + 1 < Y.heap.size := (Array.getElem?_eq_some_iff.1 hLY).1
    have hLZ : (Y.putObj (w.heap.size + 1) (.loop { rec with state := .busy })).heap[w.heap.size + 1]? = some (.loop { rec with state := .busy }) := World.putObj_heap_same hltY
    have hDZ : (Y.putObj (w.heap.size + 1) (.loop { rec with state := .busy })).heap[w.heap.size]? = some (.deferred (some [])) := (World.putObj_heap_other (by omega)).trans hDY
    have hKZ : Kp Y (Y.putObj (w.heap.size + 1) (.loop { rec with state := .busy })) := hKb _ _ _ _ (by omega) hLY rfl rfl
    refine ⟨_, run_beginRound hLY hst, wpIn_mono (hbody _ k a' _ hk (hI.putObj _ hIY (by omega) hLY rfl) ((hAx k a').putObj (s := ()) _ hAY (by omega) hLY rfl)) ?_⟩
    intro e a2 U hU
    cases e with
    | normal =>
      obtain ⟨hF2, hK2, hI2⟩ := hU
      have hLU := hF2.same _ _ (by omega) hLZ rfl
      have hDU := hF2.same _ _ (Nat.le_refl _) hDZ rfl
      have hend := run_endRound (P := P) none hLU
      have hback : ({ ({ rec with state := .busy } : Loop) with state := if (none : Option Code).isNone = true then .ready else .done, pending := none } : Loop) = rec := by rw [hrec]; rfl
      rw [hback] at hend
      exact ⟨_, _, hend, rfl, ⟨hI.putObj _ hI2 (by omega) hLU rfl, World.putObj_heap_same (Array.getElem?_eq_some_iff.1 hLU).1, (World.putObj_heap_other (by omega)).trans hDU⟩, hKt hK1 (hKt hKZ (hKt hK2 (hKb _ _ _ _ (by omega) hLU rfl rfl)))⟩
    | _ => exact hU.elim
  · rintro e X ⟨⟨v, rfl⟩, hIX, hLX, hDX⟩
    have hend := run_endLoop (P := P) hLX (by rw [hrec]; simp)
    have hpe : rec.pending = none := by rw [hrec]
    rw [hpe] at hend
    exact ⟨none, _, hend, hdone _ _ (Nat.le_refl _) (hI.putObj _ hIX (by omega) hLX rfl) ((World.putObj_heap_other (by omega)).trans hDX)⟩
end Go.Proofs.Ytbcndmlhbdanaaa
