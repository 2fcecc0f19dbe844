/- What slices.Backward of a list of terms gives: its terms, the last one first. -/
import Derived.RangeFuncNested
import Derived.RangeFuncBox
import Derived.RangeFuncBound
import Derived.RangeFuncCalls
import Derived.RangeFuncLeaves
import Derived.Shelf.Abstract
import Derived.Shelf.RegionOpen
import Derived.WalkKit
import Derived.OwnWalkIn
import Derived.TacticsInMore
import Derived.TacticsIn
import Derived.RegionIn
import Derived.LoopNIn
import Derived.LoopIn
import Derived.Maps.AppendAt
import Derived.Test.YtckofngclgkajaaBase
import Derived.Test.YtckofngclgkajaaTermR5
import Derived.Test.YtckofngclgkajaaTypMath
namespace Go.Proofs.Ytckofngclgkajaa
set_option maxRecDepth 100000
open Go.RowKit Go.Shelf

/-- an iterator that makes m rounds, one for each number -/
def Rounds (F : Fence) (n : Nat) (P : Program) (gf : Nat) (lb : Array Value) (enc : Nat → Array Value) (m : Nat) (Kp : World → World → Prop) (w : World) : Prop :=
  ∀ (l : Nat) (J : Nat → World → Prop) (W : World), Below w.heap.size w W →
    (∀ k X, k < m → J k X → YieldAt F (n - 1) P l (enc k) X fun e Y => e = .returned (.bool true) ∧ J (k + 1) Y ∧ Kp X Y) → J 0 W →
    CallsIn F n P gf (#[.func (.yield l) #[] #[]] ++ lb) W fun e Y => (∃ v, e = .returned v) ∧ J m Y

/-- a round's end: it has come to the end of the body -/
def roundEnd (R : World → Prop) : Exit → Act → World → Prop
  | .normal, _, W => R W
  | _, _, _ => False

theorem range_rounds {F : Fence} {n : Nat} {P : Program} {g : Operand} {ps : Array Tmp} {assign body : Code} {Q : Exit → Act → World → Prop} {a : Act} {w : World}
    (hro : F.round = none) (h1 : 1 ≤ n) {gf : Nat} {lb : Array Value} (hg : a.eval g = .func (.func gf) #[] lb) (hFg : F.fn gf) (eg : ∀ args w, (callFunc gf args).run P w = .ok (.enter gf args) w)
    {enc : Nat → Array Value} {m : Nat} {Kp : World → World → Prop} (hseq : Rounds F (n - 1) P gf lb enc m Kp w) (hps : ∀ k, (enc k).size = ps.size)
    (hKt : ∀ {X Y Z : World}, Kp X Y → Kp Y Z → Kp X Z) (hKb : ∀ (W : World) (l : Nat) (o o' : Obj), w.heap.size ≤ l → W.heap[l]? = some o → o.isCells = false → o.isWalk = false → Kp W (W.putObj l o'))
    (I : Nat → World → Prop) (hI : OwnFrom w.heap.size I) (h0 : I 0 w) (Ax : Nat → Act → World → Prop) (hAx : ∀ k a', OwnFrom w.heap.size (fun (_ : Unit) W => Ax k a' W))
    (hassign : ∀ (l k : Nat) (W : World) (K : Act → World → Prop), k < m → I k W → (∀ a' Y, KeepsFrom w.heap.size W Y → Kp W Y → I k Y → Ax k a' Y → K a' Y) →
      assign.wpIn (F.inRound l) (n - 1 - 1) P (Exit.then K (fun _ _ _ => False)) { tmps := (ps.zip (enc k)).foldl (fun t (p, v) => t.setIfInBounds p v) a.tmps, defers := [] } W)
    (hbody : ∀ (l k : Nat) (a' : Act) (W : World), k < m → I k W → Ax k a' W → body.wpIn (F.inRound l) (n - 1 - 1) P (roundEnd fun Y => KeepsFrom w.heap.size W Y ∧ Kp W Y ∧ I (k + 1) Y) a' W)
    (hdone : ∀ (D : Nat) (W : World), w.heap.size ≤ D → I m W → W.heap[D]? = some (.deferred (some [])) → Q .normal { a with defers := { target := .collected D, args := #[] } :: a.defers } W) :
    (Code.rangeFunc g ps assign body).wpIn F n P Q a w := by
  refine wpIn_rangeFunc fun fn hfn => ?_
  rw [hro]
  have hsz : ((w.alloc (.deferred (some []))).alloc (.loop { state := .ready, pending := none, fn := fn, tmps := a.tmps, params := ps, assign := assign, body := body, defers := w.heap.size })).heap.size = w.heap.size + 2 := by simp
  have hfirst : ((w.alloc (.deferred (some []))).alloc (.loop { state := .ready, pending := none, fn := fn, tmps := a.tmps, params := ps, assign := assign, body := body, defers := w.heap.size })).heap[w.heap.size]? = some (.deferred (some [])) :=
    (Below.heap_alloc _ _ _ (by simp)).trans (World.alloc_heap_new w _)
  have hsecond : ((w.alloc (.deferred (some []))).alloc (.loop { state := .ready, pending := none, fn := fn, tmps := a.tmps, params := ps, assign := assign, body := body, defers := w.heap.size })).heap[w.heap.size + 1]? = some (.loop { state := .ready, pending := none, fn := fn, tmps := a.tmps, params := ps, assign := assign, body := body, defers := w.heap.size }) := by
    have h := World.alloc_heap_new (w.alloc (.deferred (some []))) (.loop { state := .ready, pending := none, fn := fn, tmps := a.tmps, params := ps, assign := assign, body := body, defers := w.heap.size })
    rwa [World.size_alloc] at h
  have hbel : Below w.heap.size w ((w.alloc (.deferred (some []))).alloc (.loop { state := .ready, pending := none, fn := fn, tmps := a.tmps, params := ps, assign := assign, body := body, defers := w.heap.size })) :=
    ((Below.refl _ w).alloc (Nat.le_refl _) _).alloc (by simp) _
  have hstart : I 0 ((w.alloc (.deferred (some []))).alloc (.loop { state := .ready, pending := none, fn := fn, tmps := a.tmps, params := ps, assign := assign, body := body, defers := w.heap.size })) := hI.alloc _ (hI.alloc _ h0)
  have henter := run_enterLoop_outer (P := P) (w := w) fn a.tmps ps assign body
  generalize (w.alloc (.deferred (some []))).alloc (.loop { state := .ready, pending := none, fn := fn, tmps := a.tmps, params := ps, assign := assign, body := body, defers := w.heap.size }) = V at hsz hfirst hsecond hbel hstart henter
  refine ⟨_, _, V, { target := .fn (.func gf) lb, args := #[.func (.yield (w.heap.size + 1)) #[] #[]] }, V, gf, #[.func (.yield (w.heap.size + 1)) #[] #[]] ++ lb, V, henter, ?_, ?_, ?_, fun _ => h1, ?_⟩
  · simp only [resolve, hg]
    simp [go_sem]
  · intro f' hf'
    simp [Target.leads] at hf'
    subst hf'
    exact hFg
  · simp [invoke, go_sem, eg]
  -- the record as it lies between two rounds, and amid one
  obtain ⟨rec, hrec⟩ : ∃ rec : Loop, rec = { state := .ready, pending := none, fn := fn, tmps := a.tmps, params := ps, assign := assign, body := body, defers := w.heap.size } := ⟨_, rfl⟩
  rw [← hrec] at hsecond
  refine (hseq (w.heap.size + 1) (fun k X => I k X ∧ X.heap[w.heap.size + 1]? = some (.loop rec) ∧ X.heap[w.heap.size]? = some (.deferred (some []))) V hbel ?_ ⟨hstart, hsecond, hfirst⟩).mono ?_
  · rintro k X hk ⟨hIX, hLX, hDX⟩
    have hy := run_yield (P := P) (args := enc k) hLX (by rw [hrec]; exact hps k)
    have hst : rec.state = .ready := by rw [hrec]
    have hpe : rec.pending = none := by rw [hrec]
    have hyy : (Instr.yield (w.heap.size + 1) (enc k)).run P X = .ok (.round (w.heap.size + 1) fn ((ps.zip (enc k)).foldl (fun t (p, v) => t.setIfInBounds p v) a.tmps) assign body) X := by rw [hy, hrec]
    refine ⟨fn, _, assign, body, hyy, roundIn_of_wpIn hfn (hassign _ k X _ hk hIX ?_)⟩
    intro a' Y hF1 hK1 hIY hAY
    have hLY := hF1.same _ _ (by omega) hLX rfl
    have hDY := hF1.same _ _ (Nat.le_refl _) hDX rfl
    have hltY : w.heap.size + 1 < Y.heap.size := (Array.getElem?_eq_some_iff.1 hLY).1
    have hLZ : (Y.putObj (w.heap.size + 1) (.loop { rec with state := .busy })).heap[w.heap.size + 1]? = some (.loop { rec with state := .busy }) := World.putObj_heap_same hltY
    have hDZ : (Y.putObj (w.heap.size + 1) (.loop { rec with state := .busy })).heap[w.heap.size]? = some (.deferred (some [])) := (World.putObj_heap_other (by omega)).trans hDY
    have hKZ : Kp Y (Y.putObj (w.heap.size + 1) (.loop { rec with state := .busy })) := hKb _ _ _ _ (by omega) hLY rfl rfl
    refine ⟨_, run_beginRound hLY hst, wpIn_mono (hbody _ k a' _ hk (hI.putObj _ hIY (by omega) hLY rfl) ((hAx k a').putObj (s := ()) _ hAY (by omega) hLY rfl)) ?_⟩
    intro e a2 U hU
    cases e with
    | normal =>
      obtain ⟨hF2, hK2, hI2⟩ := hU
      have hLU := hF2.same _ _ (by omega) hLZ rfl
      have hDU := hF2.same _ _ (Nat.le_refl _) hDZ rfl
      have hend := run_endRound (P := P) none hLU
      have hback : ({ ({ rec with state := .busy } : Loop) with state := if (none : Option Code).isNone = true then .ready else .done, pending := none } : Loop) = rec := by rw [hrec]; rfl
      rw [hback] at hend
      exact ⟨_, _, hend, rfl, ⟨hI.putObj _ hI2 (by omega) hLU rfl, World.putObj_heap_same (Array.getElem?_eq_some_iff.1 hLU).1, (World.putObj_heap_other (by omega)).trans hDU⟩, hKt hK1 (hKt hKZ (hKt hK2 (hKb _ _ _ _ (by omega) hLU rfl rfl)))⟩
    | _ => exact hU.elim
  · rintro e X ⟨⟨v, rfl⟩, hIX, hLX, hDX⟩
    have hend := run_endLoop (P := P) hLX (by rw [hrec]; simp)
    have hpe : rec.pending = none := by rw [hrec]
    rw [hpe] at hend
    exact ⟨none, _, hend, hdone _ _ (Nat.le_refl _) (hI.putObj _ hIX (by omega) hLX rfl) ((World.putObj_heap_other (by omega)).trans hDX)⟩
end Go.Proofs.Ytckofngclgkajaa
namespace Go.Proofs.Ytckofngclgkajaa
set_option maxRecDepth 100000
open Go.RowKit

set_option linter.unusedSimpArgs false in
theorem arityP_any (op : Int) (w : World) : Calls Try.prog 71 #[.int .i64 op] w fun e w' => e = .returned (.int .i64 (arF op)) ∧ w' = w := by
  by_cases h1 : op < 1
  all_goals by_cases h2 : op > 43
  all_goals by_cases h3 : op < 18
  all_goals by_cases h4 : op < 30
  all_goals by_cases h5 : op < 43
  all_goals first
    | omega
    | (have h9 : arF op = if op < 1 ∨ op > 43 then -1 else if op < 18 then 0 else if op < 30 then 1 else if op < 43 then 2 else 3 := by
         unfold arF
         repeat' split
         all_goals omega
       simp only [h1, h2, h3, h4, h5, or_true, true_or, or_false, false_or, if_true, if_false] at h9
       go_enter Try.func71, Try.ntmps71
       go_wp2
       go_ret
       exact ⟨by first | rfl | exact ret_int h9.symm, rfl⟩)
theorem aggP_any (op : Int) (w : World) : Calls Try.prog 74 #[.int .i64 op] w fun e w' => e = .returned (.bool (aggF op)) ∧ w' = w := by
  unfold aggF
  by_cases h1 : 20 ≤ op
  all_goals by_cases h2 : op ≤ 29
  all_goals first
    | omega
    | (go_enter Try.func74, Try.ntmps74
       go_wp2
       go_ret
       exact ⟨ret_bool (by rw [Bool.eq_iff_iff] <;> simp <;> omega), rfl⟩)

/-- the count goes on: v expressions are wanted -/
def Want (xs : List (Int × Int)) (q i v : Nat) : Prop := (v = 0 → endF xs q = i) ∧ (∀ u, v = u + 1 → Amid xs q i u)
set_option maxHeartbeats 1000000 in
theorem endP_any (a : Option Addr) (c : Nat) (xs : List (Int × Int)) (p : Int) (w : World) (hX : LinksAt w a xs) (hn : xs.length ≤ 1000000) :
    Calls Try.prog 54 #[.slice a xs.length c, .int .i64 p] w fun e w' => e = .returned (.int .i64 (endF xs p)) ∧ Below w.heap.size w w' := by
  by_cases h0 : 0 ≤ p
  case neg =>
    have he : endF xs p = -1 := endF_out (by omega)
    generalize endF xs p = z at he ⊢
    subst he
    generalize xs.length = m
    clear hX hn
    go_enter Try.func54, Try.ntmps54
    go_wp2
    go_ret
    exact ⟨rfl, by first | exact Below.refl _ _ | exact belDraws (Below.refl _ _) _⟩
  obtain ⟨q, rfl⟩ : ∃ q : Nat, p = q := ⟨p.toNat, by omega⟩
  have d3 : decide ((q : Int) < 0) = false := by simp
  obtain ⟨m, hm⟩ : ∃ m, m = xs.length := ⟨_, rfl⟩
  have HM := Lib.hid hm
  have HX := Lib.hid hX
  have hst : q ≤ m → Want xs q q 1 := fun h => ⟨fun h => by omega, fun u hu => (by
    have h1 : u = 0 := by omega
    rw [h1]
    exact Amid.start (by rw [← HM.out]; exact h))⟩
  have HSt := Lib.hid hst
  rw [← hm] at hn ⊢
  clear hst hX hm
  go_enter Try.func54, Try.ntmps54
  go_wp2
  go_loopw [1, 5] (fun t s wr => ∃ i v : Nat, t = .int .i64 i ∧ s = .int .i64 v ∧ v ≤ 2 * i + 1 ∧ ((i ≤ m ∧ Want xs q i v) ∨ (m < q ∧ i = q ∧ v = 1)) ∧ Below w.heap.size w wr) (fun t _ _ => m - (intOf t).toNat)
  case atStart =>
    refine ⟨q, 1, rfl, rfl, by omega, ?_, by first | exact Below.refl _ _ | exact belDraws (Below.refl _ _) _⟩
    by_cases h : q ≤ m
    · exact .inl ⟨h, HSt.out h⟩
    · exact .inr ⟨by omega, rfl, rfl⟩
  case round =>
    obtain ⟨i, v, rfl, rfl, hv, hA, hbr⟩ := hrel
    have HBr := Lib.hid hbr
    clear hbr HSt
    by_cases hlt : i < m
    · have hxl : i < xs.length := by rw [← HM.out]; exact hlt
      obtain ⟨b, o, rfl, hb, hc⟩ := HX.out.row (by omega)
      have c0 := (HBr.out.cell (p := ⟨b, o + i * 2, none⟩) hb).trans (hc i hxl).1
      have hw : Want xs q i v := by
        rcases hA with h | h
        · exact h.2
        · omega
      clear hA hc
      have hak := arF_le (toA xs i)
      have d1 : decide ((i : Int) ≥ m) = false := by simp; omega
      have d2 : decide (m ≤ i) = false := by simp; omega
      have hi0 : (0 : Int) ≤ i := by omega
      have hi1 : (i : Int) < m := by omega
      cases v with
      | zero =>
        have hz0 : decide (((0 : Nat) : Int) > 0) = false := by simp
        have he := hw.1 rfl
        clear hw c0 hak
        go_wp2
        go_ret
        exact ⟨ret_int he.symm, by first | exact HBr.out | exact belDraws HBr.out _⟩
      | succ v =>
        have hA := hw.2 v rfl
        have dv : decide ((v : Int) + 1 > 0) = true := by (first | (simp; done) | (simp; omega))
        have HN : Hid (∀ n : Nat, 0 ≤ arF (toA xs i) → (n : Int) + 1 = v + arF (toA xs i) → Amid xs q (i + 1) n) := Lib.hid (fun n => hA.next (v := n) hxl)
        have HB := Lib.hid (hA.bad hxl)
        have HF : Hid (v = 0 → arF (toA xs i) = 0 → endF xs q = (i + 1 : Nat)) := Lib.hid (fun h0 ha => by subst h0; exact hA.found hxl ha)
        clear hw hA
        generalize toA xs i = op at c0 hak HN HB HF
        obtain ⟨k, hk⟩ : ∃ k, arF op = k := ⟨_, rfl⟩
        rw [hk] at hak HN HB HF
        have HK := Lib.hid hk
        clear hk
        by_cases hk0 : 0 ≤ k
        · obtain ⟨n, rfl⟩ : ∃ n : Nat, k = n := ⟨k.toNat, by omega⟩
          have n0 : decide ((n : Int) < 0) = false := by simp
          have hwn : Want xs q (i + 1) (v + n) := ⟨fun h => HF.out (by omega) (by omega), fun u hu => HN.out u (by omega) (by omega)⟩
          have HWn := Lib.hid hwn
          clear HN HB HF hwn
          go_wp2_with (go_at_call 71; refine (arityP_any op _).mono ?_; rintro e w1 ⟨rfl, rfl⟩; rw [HK.out])
          go_roundw
          case rel =>
            exact ⟨i + 1, v + n, by go_num, by first | go_num | (congr 1; omega), by omega, .inl ⟨hlt, HWn.out⟩, by first | exact HBr.out | exact belDraws HBr.out _⟩
          case measure => simp [intOf]; omega
        · have he := HB.out (by omega)
          have n0 : decide (k < 0) = true := by simp; omega
          clear HN HB HF
          go_wp2_with (go_at_call 71; refine (arityP_any op _).mono ?_; rintro e w1 ⟨rfl, rfl⟩; rw [HK.out])
          go_ret
          exact ⟨ret_int he.symm, by first | exact HBr.out | exact belDraws HBr.out _⟩
    · have d1 : decide ((i : Int) ≥ m) = true := by simp; omega
      cases v with
      | zero =>
        have hz0 : decide (((0 : Nat) : Int) > 0) = false := by simp
        have he : endF xs q = i := by
          rcases hA with h | h
          · exact h.2.1 rfl
          · omega
        clear hA
        go_wp2
        go_ret
        exact ⟨ret_int he.symm, by first | exact HBr.out | exact belDraws HBr.out _⟩
      | succ v =>
        have dv : decide ((v : Int) + 1 > 0) = true := by (first | (simp; done) | (simp; omega))
        have he : endF xs q = -1 := by
          rcases hA with h | h
          · obtain rfl : i = m := by omega
            have h2 := h.2.2 v rfl
            rw [HM.out] at h2
            exact h2.over
          · exact endF_out (by rw [← HM.out]; omega)
        clear hA
        go_wp2
        go_ret
        exact ⟨ret_int he.symm, by first | exact HBr.out | exact belDraws HBr.out _⟩

end Go.Proofs.Ytckofngclgkajaa
namespace Go.Proofs.Ytckofngclgkajaa
set_option maxRecDepth 100000

/-- what a term adds: one, or one for an aggregate -/
def addN (b : Bool) (op : Int) : Nat := if b = true then 1 else aggN op
theorem addN_le (b : Bool) (op : Int) : addN b op ≤ 1 := by
  unfold addN aggN
  repeat' split
  all_goals omega
/-- the greatest of some numbers, the last one first -/
def mxL (l : List Nat) : Nat := l.reverse.foldl max 0
theorem mxL_nil : mxL [] = 0 := rfl
theorem mxL_cons (v : Nat) (l : List Nat) : mxL (v :: l) = max (mxL l) v := by simp [mxL]
theorem mxL_le {l : List Nat} {b : Nat} (h : ∀ v ∈ l, v ≤ b) : mxL l ≤ b := by
  induction l with
  | nil => rw [mxL_nil]; omega
  | cons v l ih =>
    rw [mxL_cons]
    have h1 := ih (fun u hu => h u (by simp [hu]))
    have h2 := h v (by simp)
    omega
theorem mxL_app (a b : List Nat) : mxL (a ++ b) = max (mxL a) (mxL b) := by
  induction a with
  | nil => simp [mxL_nil]
  | cons v a ih => rw [List.cons_append, mxL_cons, mxL_cons, ih]; omega
/-- what stands on the stack, the top first, when these terms have been read -/
def topF (b : Bool) : List (Int × Int) → List Nat
  | [] => []
  | t :: ts => (mxL ((topF b ts).take (arF t.1).toNat) + addN b t.1) :: (topF b ts).drop (arF t.1).toNat
theorem topF_len (b : Bool) : ∀ ts : List (Int × Int), (topF b ts).length ≤ ts.length
  | [] => by simp [topF]
  | t :: ts => by
    have := topF_len b ts
    simp only [topF, List.length_cons, List.length_drop]
    omega
theorem topF_le (b : Bool) : ∀ (ts : List (Int × Int)) (v : Nat), v ∈ topF b ts → v ≤ ts.length
  | [], v, h => by simp [topF] at h
  | t :: ts, v, h => by
    unfold topF at h
    rcases List.mem_cons.1 h with h | h
    · have h1 : mxL ((topF b ts).take (arF t.1).toNat) ≤ ts.length := mxL_le fun u hu => topF_le b ts u (List.mem_of_mem_take hu)
      have h2 := addN_le b t.1
      rw [List.length_cons]
      omega
    · have := topF_le b ts v (List.mem_of_mem_drop h)
      rw [List.length_cons]
      omega
/-- expressions that have been read stand on the stack, one for each -/
theorem Exs.top {w : Nat} {a : List (Int × Int)} {d n : Nat} (b : Bool) (h : Exs w a d n) : ∀ rest : List (Int × Int), ∃ vs, topF b (a ++ rest) = vs ++ topF b rest ∧ vs.length = w ∧ mxL vs = if b = true then d else n := by
  induction h with
  | nil => exact fun rest => ⟨[], rfl, rfl, by cases b <;> rfl⟩
  | cons ha hb hc ih1 ih2 =>
    rename_i t k j d n d' n' p q
    intro rest
    obtain ⟨vs, h1, h2, h3⟩ := ih1 (q ++ rest)
    obtain ⟨us, g1, g2, g3⟩ := ih2 rest
    refine ⟨(mxL vs + addN b t.1) :: us, ?_, by simp [g2], ?_⟩
    · rw [List.cons_append, List.append_assoc, topF, ha, Int.toNat_natCast, h1, List.take_left' h2, List.drop_left' h2, g1]
      rfl
    · rw [mxL_cons, h3, g3]
      cases b
      · simp only [addN, Bool.false_eq_true, if_false]
        omega
      · simp only [addN, if_true]
        omega
theorem Exs.app {w : Nat} {a : List (Int × Int)} {d n : Nat} (h : Exs w a d n) : ∀ {w' : Nat} {a' : List (Int × Int)} {d' n' : Nat}, Exs w' a' d' n' → ∃ d2 n2, Exs (w + w') (a ++ a') d2 n2 := by
  induction h with
  | nil =>
    intro w' a' d' n' h'
    rw [Nat.zero_add]
    exact ⟨_, _, h'⟩
  | cons ha hb hc ih1 ih2 =>
    rename_i t k j d n d1 n1 p q
    intro w' a' d' n' h'
    obtain ⟨d2, n2, h2⟩ := ih2 h'
    rw [List.cons_append, List.append_assoc, show j + 1 + w' = (j + w') + 1 by omega]
    exact ⟨_, _, .cons ha hb h2⟩
/-- what is left of expressions are expressions -/
theorem Exs.rest {w : Nat} {a : List (Int × Int)} {d n : Nat} (h : Exs w a d n) : ∀ i, i ≤ a.length → ∃ w' d' n', Exs w' (a.drop i) d' n' := by
  induction h with
  | nil => exact fun i _ => ⟨0, 0, 0, by rw [List.drop_nil]; exact .nil⟩
  | cons ha hb hc ih1 ih2 =>
    rename_i t k j d n d1 n1 p q
    intro i hi
    cases i with
    | zero => exact ⟨_, _, _, .cons ha hb hc⟩
    | succ i =>
      rw [List.drop_succ_cons]
      by_cases h : i ≤ p.length
      · obtain ⟨w1, d2, n2, h1⟩ := ih1 i h
        obtain ⟨d3, n3, h2⟩ := h1.app hc
        exact ⟨_, _, _, by rw [List.drop_append_of_le_length h]; exact h2⟩
      · obtain ⟨w1, d2, n2, h1⟩ := ih2 (i - p.length) (by simp at hi; omega)
        exact ⟨_, _, _, by rw [List.drop_append, List.drop_of_length_le (by omega), List.nil_append]; exact h1⟩
/-- each term of one expression finds its operands -/
theorem top_room {xs : List (Int × Int)} (h : oneB xs = true) (b : Bool) {i : Nat} (hi : i < xs.length) : 0 ≤ arF (toA xs i) ∧ (arF (toA xs i)).toNat ≤ (topF b (xs.drop (i + 1))).length := by
  obtain ⟨w, d, n, hx⟩ := (one_exs (oneB_iff.1 h)).rest i (Nat.le_of_lt hi)
  rw [drop_tm hi] at hx
  generalize hq : (toA xs i, wtA xs i) :: xs.drop (i + 1) = q at hx
  cases hx with
  | nil => cases hq
  | cons ha hb hc =>
    rename_i t k j d n d1 n1 p q
    injection hq with h1 h2
    subst h1
    dsimp only at ha
    obtain ⟨vs, g1, g2, _⟩ := hb.top b q
    rw [h2, g1, ha]
    simp [g2]
/-- .. and the whole expression has one number -/
theorem top_whole {xs : List (Int × Int)} (h : oneB xs = true) (b : Bool) : topF b xs = [if b = true then (levF xs).1 else (levF xs).2] := by
  obtain ⟨vs, g1, g2, g3⟩ := (one_exs (oneB_iff.1 h)).top b []
  rw [List.append_nil] at g1
  rw [g1]
  match vs, g2 with
  | [v], _ =>
    simp only [mxL_cons, mxL_nil] at g3
    rw [← g3]
    simp [topF]
theorem top_step {xs : List (Int × Int)} (b : Bool) {i : Nat} (hi : i < xs.length) : topF b (xs.drop i) = (mxL ((topF b (xs.drop (i + 1))).take (arF (toA xs i)).toNat) + addN b (toA xs i)) :: (topF b (xs.drop (i + 1))).drop (arF (toA xs i)).toNat := by
  rw [drop_tm hi]
  rfl
end Go.Proofs.Ytckofngclgkajaa
namespace Go.Proofs.Ytckofngclgkajaa
set_option maxRecDepth 100000
open Go.RowKit Go.Shelf
attribute [local go_sem] Oper.semAt_some

/-- what a round keeps: what lies below n, and the box at B -/
def KeepsB (n B : Nat) (W W' : World) : Prop := Below n W W' ∧ ∀ v, W.cell? ⟨B, 0, none⟩ = some v → W'.cell? ⟨B, 0, none⟩ = some v
theorem KeepsB.refl (n B : Nat) (W : World) : KeepsB n B W W := ⟨Below.refl _ _, fun _ h => h⟩
theorem KeepsB.trans {n B : Nat} {X Y Z : World} (h : KeepsB n B X Y) (k : KeepsB n B Y Z) : KeepsB n B X Z := ⟨h.1.trans k.1, fun v hv => k.2 v (h.2 v hv)⟩
theorem KeepsB.put {n B : Nat} {w : World} (hn : n ≤ w.heap.size) (W : World) (l : Nat) (o o' : Obj) (hl : w.heap.size ≤ l) (h : W.heap[l]? = some o) (hc : o.isCells = false) (hw : o.isWalk = false) : KeepsB n B W (W.putObj l o') := by
  refine ⟨belowK_b hn W l o o' hl h hc hw, fun v hv => ?_⟩
  by_cases e : B = l
  · subst e
    simp only [World.cell?, h] at hv
    cases o with
    | cells a t f => cases hc
    | _ => simp at hv
  · have hs : (W.putObj l o').heap[B]? = W.heap[B]? := World.putObj_heap_other (by intro h; first | exact e h | exact e h.symm)
    simp only [World.cell?] at hv ⊢
    rw [hs]
    exact hv

/-- what the round with the number k is given: a place and its term -/
def backV (xs : List (Int × Int)) (k : Nat) : Array Value := #[.int .i64 ((xs.length - 1 - k : Nat) : Int), .agg #[.int .i64 (toA xs (xs.length - 1 - k)), .int .i64 (wtA xs (xs.length - 1 - k))]]

set_option maxRecDepth 100000 in
set_option maxHeartbeats 2000000 in
theorem back_rounds (F : Fence) (n : Nat) (hf : F.fn 91) (hro : F.round = none) (hn : 1 ≤ n) (Bs n₀ b off m cap : Nat) (xs : List (Int × Int)) (hm : m = xs.length) (h0m : 0 < m) (hreach : m ≤ 1000000) (hb : b < n₀)
    (w : World) (hBw : Bs < w.heap.size) (hnw : n₀ ≤ w.heap.size) (hBs' : w.cell? ⟨Bs, 0, none⟩ = some (.slice (some ⟨b, off, none⟩) m cap)) (hc' : ∀ i, i < m → w.cell? ⟨b, off + i * 2, none⟩ = some (.int .i64 (toA xs i)) ∧ w.cell? ⟨b, off + i * 2 + 1, none⟩ = some (.int .i64 (wtA xs i))) :
    Rounds F n Try.prog 91 #[.pointer (some ⟨Bs, 0, none⟩)] (backV xs) m (KeepsB n₀ Bs) w := by
  intro l J W hW hY h0
  have HC := Lib.hid (fun i (h : i < m) => (⟨(hW.cell (p := ⟨b, off + i * 2, none⟩) (show b < w.heap.size by omega)).trans (hc' i h).1, (hW.cell (p := ⟨b, off + i * 2 + 1, none⟩) (show b < w.heap.size by omega)).trans (hc' i h).2⟩ : _ ∧ _))
  have hBs := (hW.cell (p := ⟨Bs, 0, none⟩) hBw).trans hBs'
  have HM := Lib.hid hm
  have HY := Lib.hid hY
  clear hc' hBs' hm hW hBw hnw hY
  refine callsIn_of_wp Try.func91 rfl hf ?_ hro
  simp only [Try.ntmps91, List.size_toArray, List.length_cons, List.length_nil, Nat.reduceAdd, Nat.reduceSub, Array.replicate_succ, Array.replicate_zero, List.push_toArray, List.append_toArray, List.nil_append, List.cons_append]
  gi_wp2
  gi_loopw [3] (fun i wr => ∃ k : Nat, k ≤ m ∧ i = .int .i64 ((m : Int) - 1 - k) ∧ J k wr ∧ KeepsB n₀ Bs W wr)
    (fun i _ => (intOf i + 1).toNat)
  case atStart => exact ⟨0, Nat.zero_le _, by first | (go_num; done) | (congr 1; omega), h0, KeepsB.refl _ _ _⟩
  case round =>
    obtain ⟨k, hk, rfl, hJs, hnx⟩ := hrel
    by_cases hlt : k < m
    · obtain ⟨j, hj⟩ : ∃ j : Nat, j = m - 1 - k := ⟨_, rfl⟩
      have hjm : j < m := by omega
      have ej : (m : Int) - 1 - k = j := by omega
      have hcx : wr.cell? ⟨Bs, 0, none⟩ = some (.slice (some ⟨b, off, none⟩) m cap) := hnx.2 _ hBs
      have g1 := (hnx.1.cell (p := ⟨b, off + j * 2, none⟩) hb).trans (HC.out j hjm).1
      have g2 := (hnx.1.cell (p := ⟨b, off + j * 2 + 1, none⟩) hb).trans (HC.out j hjm).2
      obtain ⟨fn, tmps, assign, body, hy, hR⟩ := HY.out k wr hlt hJs
      unfold backV at hy
      rw [← HM.out, ← hj] at hy
      generalize toA xs j = op at g1 hy
      generalize wtA xs j = ar at g2 hy
      have hj0 : (0 : Int) ≤ j := by omega
      have hj1 : (j : Int) < m := by omega
      have HK := Lib.hid hj
      have HNx := Lib.hid hnx
      rw [ej]
      clear hj hnx
      gi_wp2
      refine hR.mono ?_
      rintro e W3 ⟨rfl, hJ3, hk3⟩
      gi_wp2
      go_roundw
      case rel => exact ⟨k + 1, by omega, by have := HK.out; first | (go_num; done) | (congr 1; omega), hJ3, HNx.out.trans hk3⟩
      case measure => first | (simp [intOf]; done) | (simp [intOf]; omega)
    · obtain rfl : k = m := by omega
      have d0 : decide ((k : Int) - 1 - k ≥ 0) = false := by simp; omega
      gi_wp2
      go_end0
      exact ⟨⟨_, rfl⟩, hJs⟩

set_option maxHeartbeats 1000000 in
theorem back_in (F : Fence) (n : Nat) (hf : F.fn 88) (hro : F.round = none) (a : Option Addr) (len cap : Nat) (w : World) :
    CallsIn F n Try.prog 88 #[.slice a len cap] w fun e w' => e = .returned (.func (.func 91) #[] #[.pointer (some ⟨w.heap.size, 0, none⟩)]) ∧ w' = w.alloc (.cells #[.slice a len cap] 22) := by
  refine callsIn_of_wp Try.func88 rfl hf ?_ hro
  simp only [Try.ntmps88, List.size_toArray, List.length_cons, List.length_nil, Nat.reduceAdd, Nat.reduceSub, Array.replicate_succ, Array.replicate_zero, List.push_toArray, List.append_toArray, List.nil_append, List.cons_append]
  gi_wp2
  go_ret
  exact ⟨rfl, rfl⟩
end Go.Proofs.Ytckofngclgkajaa
