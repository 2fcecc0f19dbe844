/- What Of of the specification of layer 7 answers. -/
import Derived.Test.YtckofngclgkajaaTypMath
namespace Go.Proofs.Ytckofngclgkajaa
set_option maxRecDepth 100000
open Go.RowKit

theorem knownR_any (k : Int) (w : World) : Calls Try.prog 33 #[.int .i64 k] w fun e w' => e = .returned (.bool (knownK k)) ∧ w' = w := by
  unfold knownK
  by_cases h1 : k = 1
  · subst h1
    go_enter Try.func33, Try.ntmps33
    go_wp2
    go_ret
    exact ⟨rfl, rfl⟩
  by_cases h2 : k = 2
  · subst h2
    go_enter Try.func33, Try.ntmps33
    go_wp2
    go_ret
    exact ⟨rfl, rfl⟩
  go_enter Try.func33, Try.ntmps33
  go_wp2
  go_ret
  exact ⟨ret_bool (by rw [Bool.eq_iff_iff]; simp; omega), rfl⟩
theorem below_alloc7 (w : World) (O : Obj) : Below w.heap.size w (w.alloc O) := (Below.refl _ _).alloc (Nat.le_refl _) O
set_option maxHeartbeats 1000000 in
set_option linter.unusedSimpArgs false in
theorem leafR_any (op arg : Int) (ka : Option Addr) (kc : Nat) (ks : List Int) (b : Bool) (w : World) (hK : IntsAt w ka ks) (har : arF op = 0) (ha : argB (op, arg) ks.length = true) :
    Calls Try.prog 61 #[.agg #[.int .i64 op, .int .i64 arg], .slice ka ks.length kc, .bool b] w fun e w' => e = .returned (.int .i64 (leafK (op, arg) ks b)) ∧ Below w.heap.size w w' := by
  have hop : 1 ≤ op ∧ op ≤ 17 := by
    unfold arF at har
    split at har
    · assumption
    · repeat' split at har
      all_goals omega
  have hidx : op = 5 ∨ op = 12 → ∃ (g o i : Nat), arg = (i : Int) ∧ i < ks.length ∧ ka = some ⟨g, o, none⟩ ∧ (∀ O, (w.alloc O).cell? ⟨g, o + i, none⟩ = some (.int .i64 (idA ks i))) ∧ idA ks arg.toNat = idA ks i := fun h => by
    unfold argB at ha
    rw [if_neg (by dsimp only; omega), if_pos h] at ha
    simp at ha
    obtain ⟨i, rfl⟩ : ∃ i : Nat, arg = i := ⟨arg.toNat, by omega⟩
    have hi : i < ks.length := by omega
    obtain ⟨g, o, e, hg, hc⟩ := hK.row (by omega)
    exact ⟨g, o, i, rfl, hi, e, fun O => ((below_alloc7 w O).cell (p := ⟨g, o + i, none⟩) hg).trans (hc i hi), by rw [Int.toNat_natCast]⟩
  clear hK ha har
  have hlist : op = 1 ∨ op = 2 ∨ op = 3 ∨ op = 4 ∨ op = 5 ∨ op = 6 ∨ op = 7 ∨ op = 8 ∨ op = 9 ∨ op = 10 ∨ op = 11 ∨ op = 12 ∨ op = 13 ∨ op = 14 ∨ op = 15 ∨ op = 16 ∨ op = 17 := by omega
  unfold leafK
  rcases hlist with rfl | rfl | rfl | rfl | rfl | rfl | rfl | rfl | rfl | rfl | rfl | rfl | rfl | rfl | rfl | rfl | rfl
  case inr.inr.inr.inr.inl =>
    obtain ⟨g, o, i, rfl, hi, rfl, hc, e⟩ := hidx (by omega)
    dsimp only
    rw [e]
    simp only [show ¬ (b = false ∧ (11 : Int) ≤ 5) by omega, if_false, show ¬ ((5 : Int) = 2 ∨ (5 : Int) = 3 ∨ (5 : Int) = 10 ∨ (5 : Int) = 15) by omega, show ¬ ((5 : Int) = 4 ∨ (5 : Int) = 11 ∨ (5 : Int) = 17) by omega, show ((5 : Int) = 5 ∨ (5 : Int) = 12) by omega, if_true]
    have q0 : (0 : Int) ≤ (i : Int) := by omega
    have q1 : (i : Int) < (ks.length : Int) := by omega
    clear hidx hop e hi
    generalize idA ks i = z at *
    generalize ks.length = m at *
    cases b <;>
    (go_enter Try.func61, Try.ntmps61
     go_wp2
     go_ret
     exact ⟨rfl, below_alloc7 _ _⟩)
  case inr.inr.inr.inr.inr.inr.inr.inr.inr.inr.inr.inl =>
    obtain ⟨g, o, i, rfl, hi, rfl, hc, e⟩ := hidx (by omega)
    dsimp only
    rw [e]
    have q0 : (0 : Int) ≤ (i : Int) := by omega
    have q1 : (i : Int) < (ks.length : Int) := by omega
    clear hidx hop e hi
    generalize idA ks i = z at *
    generalize ks.length = m at *
    cases b <;>
    (simp only [show ((11 : Int) ≤ 12) by omega, and_true, if_true, Bool.true_eq_false, false_and, if_false, show ¬ ((12 : Int) = 2 ∨ (12 : Int) = 3 ∨ (12 : Int) = 10 ∨ (12 : Int) = 15) by omega, show ¬ ((12 : Int) = 4 ∨ (12 : Int) = 11 ∨ (12 : Int) = 17) by omega, show ((12 : Int) = 5 ∨ (12 : Int) = 12) by omega]
     go_enter Try.func61, Try.ntmps61
     go_wp2
     go_ret
     exact ⟨rfl, below_alloc7 _ _⟩)
  all_goals
    clear hidx hop
    generalize ks.length = m at *
    cases b <;>
    (go_enter Try.func61, Try.ntmps61
     go_wp2
     go_ret
     exact ⟨rfl, below_alloc7 _ _⟩)
theorem op_list {op : Int} {a b : Int} (h : a ≤ op ∧ op ≤ b) : ∃ n : Nat, op = a + n ∧ (n : Int) ≤ b - a := ⟨(op - a).toNat, by omega, by omega⟩
set_option maxHeartbeats 1000000 in
theorem singleR_any (op a : Int) (w : World) (hop : 18 ≤ op ∧ op ≤ 29) :
    Calls Try.prog 62 #[.int .i64 op, .int .i64 a] w fun e w' => e = .returned (.int .i64 (singleK op a)) ∧ w' = w := by
  have hlist : op = 18 ∨ op = 19 ∨ op = 20 ∨ op = 21 ∨ op = 22 ∨ op = 23 ∨ op = 24 ∨ op = 25 ∨ op = 26 ∨ op = 27 ∨ op = 28 ∨ op = 29 := by omega
  clear hop
  unfold singleK
  rcases hlist with rfl | rfl | rfl | rfl | rfl | rfl | rfl | rfl | rfl | rfl | rfl | rfl
  all_goals
    by_cases h1 : a = 1
    · subst h1
      go_enter Try.func62, Try.ntmps62
      go_wp2
      go_ret
      exact ⟨rfl, rfl⟩
    by_cases h2 : a = 2
    · subst h2
      go_enter Try.func62, Try.ntmps62
      go_wp2
      go_ret
      exact ⟨rfl, rfl⟩
    rw [if_neg (by unfold wantK; split <;> omega)]
    go_enter Try.func62, Try.ntmps62
    go_wp2
    go_ret
    exact ⟨rfl, rfl⟩
end Go.Proofs.Ytckofngclgkajaa
namespace Go.Proofs.Ytckofngclgkajaa
set_option maxRecDepth 100000
open Go.RowKit

set_option maxHeartbeats 2000000 in
theorem doubleR_any (op a b : Int) (w : World) (hop : 30 ≤ op ∧ op ≤ 42) :
    Calls Try.prog 63 #[.int .i64 op, .int .i64 a, .int .i64 b] w fun e w' => e = .returned (.int .i64 (doubleK op a b)) ∧ w' = w := by
  by_cases he : op = 35 ∨ op = 36
  · have hd : doubleK op a b = if a = b ∧ a ≠ 0 then 2 else 0 := by unfold doubleK; rw [if_pos he]
    rw [hd]
    by_cases h1 : a = b
    · subst h1
      have b1 : (a == a) = true := by simp
      by_cases h2 : a = 0
      · rw [if_neg (by omega)]
        subst h2
        rcases he with rfl | rfl <;>
        (go_enter Try.func63, Try.ntmps63
         go_wp2
         go_ret
         exact ⟨rfl, rfl⟩)
      · rw [if_pos ⟨rfl, h2⟩]
        have b2 : (a == 0) = false := by simp; omega
        rcases he with rfl | rfl <;>
        (go_enter Try.func63, Try.ntmps63
         go_wp2
         go_ret
         exact ⟨rfl, rfl⟩)
    · rw [if_neg (by omega)]
      have b1 : (a == b) = false := by simp; omega
      rcases he with rfl | rfl <;>
      (go_enter Try.func63, Try.ntmps63
       go_wp2
       go_ret
       exact ⟨rfl, rfl⟩)
  by_cases hl : op = 41 ∨ op = 42
  · have hd : doubleK op a b = if a = 2 ∧ b = 2 then 2 else 0 := by unfold doubleK; rw [if_neg he, if_pos hl]
    rw [hd]
    by_cases h1 : a = 2
    · subst h1
      by_cases h2 : b = 2
      · subst h2
        rw [if_pos ⟨rfl, rfl⟩]
        rcases hl with rfl | rfl <;>
        (go_enter Try.func63, Try.ntmps63
         go_wp2
         go_ret
         exact ⟨rfl, rfl⟩)
      · rw [if_neg (by omega)]
        have b2 : (b == 2) = false := by simp; omega
        rcases hl with rfl | rfl <;>
        (go_enter Try.func63, Try.ntmps63
         go_wp2
         go_ret
         exact ⟨rfl, rfl⟩)
    · rw [if_neg (by omega)]
      have b1 : (a == 2) = false := by simp; omega
      rcases hl with rfl | rfl <;>
      (go_enter Try.func63, Try.ntmps63
       go_wp2
       go_ret
       exact ⟨rfl, rfl⟩)
  have hd : doubleK op a b = if a = 1 ∧ b = 1 then (if 37 ≤ op ∧ op ≤ 40 then 2 else 1) else 0 := by unfold doubleK; rw [if_neg he, if_neg hl]
  rw [hd]
  have e1 : (op == 35) = false := by simp; omega
  have e2 : (op == 36) = false := by simp; omega
  have e3 : (op == 41) = false := by simp; omega
  have e4 : (op == 42) = false := by simp; omega
  clear hd he hl
  by_cases h1 : a = 1
  · subst h1
    by_cases h2 : b = 1
    · subst h2
      rw [if_pos ⟨rfl, rfl⟩]
      by_cases h3 : 37 ≤ op
      · have c3 : decide (op < 37) = false := by simp; omega
        by_cases h4 : op ≤ 40
        · rw [if_pos ⟨h3, h4⟩]
          have c4 : decide (40 < op) = false := by simp; omega
          go_enter Try.func63, Try.ntmps63
          go_wp2
          go_ret
          exact ⟨rfl, rfl⟩
        · rw [if_neg (by omega)]
          have c4 : decide (40 < op) = true := by simp; omega
          go_enter Try.func63, Try.ntmps63
          go_wp2
          go_ret
          exact ⟨rfl, rfl⟩
      · rw [if_neg (by omega)]
        have c3 : decide (op < 37) = true := by simp; omega
        go_enter Try.func63, Try.ntmps63
        go_wp2
        go_ret
        exact ⟨rfl, rfl⟩
    · rw [if_neg (by omega)]
      have b2 : (b == 1) = false := by simp; omega
      go_enter Try.func63, Try.ntmps63
      go_wp2
      go_ret
      exact ⟨rfl, rfl⟩
  · rw [if_neg (by omega)]
    have b1 : (a == 1) = false := by simp; omega
    go_enter Try.func63, Try.ntmps63
    go_wp2
    go_ret
    exact ⟨rfl, rfl⟩
structure Src7 where
  w : World
  b : Nat
  o : Nat
  c : Nat
  xs : List (Int × Int)
  ka : Option Addr
  kc : Nat
  ks : List Int
structure Src7.Ok (S : Src7) : Prop where
  links : LinksAt S.w (some ⟨S.b, S.o, none⟩) S.xs
  kinds : IntsAt S.w S.ka S.ks
  few : S.xs.length ≤ 1000
def Src7.Knd (S : Src7) (p : Nat) (b : Bool) (z : Int) : Prop := ∀ W, Below S.w.heap.size S.w W →
  Calls Try.prog 34 #[.slice (some ⟨S.b, S.o, none⟩) S.xs.length S.c, .int .i64 (p : Int), .slice S.ka S.ks.length S.kc, .bool b] W fun e w' => e = .returned (.int .i64 z) ∧ Below W.heap.size W w'
theorem Src7.Ok.cells {S : Src7} (h : S.Ok) {p : Nat} {x : Ex} (hs : Sits S.xs p x) {W : World} (hb : Below S.w.heap.size S.w W) :
    W.cell? ⟨S.b, S.o + p * 2, none⟩ = some (.int .i64 x.top.1) ∧ W.cell? ⟨S.b, S.o + p * 2 + 1, none⟩ = some (.int .i64 x.top.2) := by
  have hl := hs.lt
  obtain ⟨b, o, e, _, hc⟩ := (h.links.below hb).row (by omega)
  injection e with e
  injection e with e1 e2
  rw [e1, e2, ← hs.top.1, ← hs.top.2]
  exact hc p hl
set_option maxHeartbeats 2000000 in
theorem kindLeafR (S : Src7) (hS : S.Ok) (p : Nat) (b : Bool) (t : Int × Int) (hs : Sits S.xs p (.leaf t)) (hw : arF t.1 = 0) (ha : argB t S.ks.length = true) : S.Knd p b (leafK t S.ks b) := by
  intro W hW
  obtain ⟨hc0, hc1⟩ := hS.cells hs hW
  have hlt := hs.lt
  have hfew := hS.few
  have q0 : (0 : Int) ≤ (p : Int) := by omega
  have q1 : (p : Int) < (S.xs.length : Int) := by omega
  obtain ⟨op, arg⟩ := t
  change W.cell? _ = some (.int .i64 op) at hc0
  change W.cell? _ = some (.int .i64 arg) at hc1
  have HL := Lib.hid (fun W' (h : Below W.heap.size W W') => leafR_any op arg S.ka S.kc S.ks b W' (hS.kinds.below (hW.trans (h.mono hW.size))) hw ha)
  have har := fun W => arityR_any op W
  rw [hw] at har
  clear hs hw hW hS ha
  generalize leafK (op, arg) S.ks b = z at *
  generalize S.xs.length = m at *
  generalize S.ks.length = k at *
  go_enter Try.func34, Try.ntmps34
  go_wp2_with (first
    | (go_at_call 21; refine (har _).mono ?_; rintro e w3 ⟨rfl, rfl⟩)
    | (go_at_call 61; refine (HL.out _ (Below.refl _ _)).mono ?_; rintro e w4 ⟨rfl, hb4⟩))
  go_ret
  exact ⟨rfl, hb4⟩
end Go.Proofs.Ytckofngclgkajaa
namespace Go.Proofs.Ytckofngclgkajaa
set_option maxRecDepth 100000
open Go.RowKit

theorem ar_un7 {op : Int} (h : arF op = 1) : 18 ≤ op ∧ op ≤ 29 := by
  unfold arF at h
  repeat' split at h
  all_goals omega
theorem ar_bi7 {op : Int} (h : arF op = 2) : 30 ≤ op ∧ op ≤ 42 := by
  unfold arF at h
  repeat' split at h
  all_goals omega
set_option maxHeartbeats 2000000 in
theorem kindUnR (S : Src7) (hS : S.Ok) (p : Nat) (b : Bool) (t : Int × Int) (a : Ex) (hs : Sits S.xs p (.un t a)) (hw : arF t.1 = 1) (z : Int) (hA : S.Knd (p + 1) (b || aggF t.1) z) : S.Knd p b (singleK t.1 z) := by
  intro W hW
  have hc0 := (hS.cells hs hW).1
  have hlt := hs.lt
  have hfew := hS.few
  have q0 : (0 : Int) ≤ (p : Int) := by omega
  have q1 : (p : Int) < (S.xs.length : Int) := by omega
  unfold Src7.Knd at hA
  have ep : ((p + 1 : Nat) : Int) = (p : Int) + 1 := by omega
  rw [ep] at hA
  have HA := Lib.hid (fun W' (h : Below W.heap.size W W') => hA W' (hW.trans (h.mono hW.size)))
  obtain ⟨op, arg⟩ := t
  change W.cell? _ = some (.int .i64 op) at hc0
  dsimp only at hw HA ⊢
  have har := fun W => arityR_any op W
  rw [hw] at har
  have hag := fun W => aggR_any op W
  have hsg := fun W => singleR_any op z W (ar_un7 hw)
  clear hs hw hW hS hA
  generalize singleK op z = y at *
  generalize aggF op = g at *
  generalize S.xs.length = m at *
  generalize S.ks.length = k at *
  cases b with
  | true =>
    rw [Bool.true_or] at HA
    go_enter Try.func34, Try.ntmps34
    go_wp2_with (first
      | (go_at_call 21; refine (har _).mono ?_; rintro e w3 ⟨rfl, rfl⟩)
      | (go_at_call 34; refine (HA.out _ (Below.refl _ _)).mono ?_; rintro e w4 ⟨rfl, hb4⟩)
      | (go_at_call 62; refine (hsg _).mono ?_; rintro e w5 ⟨rfl, rfl⟩))
    go_ret
    exact ⟨rfl, hb4⟩
  | false =>
    rw [Bool.false_or] at HA
    go_enter Try.func34, Try.ntmps34
    go_wp2_with (first
      | (go_at_call 21; refine (har _).mono ?_; rintro e w3 ⟨rfl, rfl⟩)
      | (go_at_call 20; refine (hag _).mono ?_; rintro e w6 ⟨rfl, rfl⟩)
      | (go_at_call 34; refine (HA.out _ (Below.refl _ _)).mono ?_; rintro e w4 ⟨rfl, hb4⟩)
      | (go_at_call 62; refine (hsg _).mono ?_; rintro e w5 ⟨rfl, rfl⟩))
    go_ret
    exact ⟨rfl, hb4⟩
set_option maxHeartbeats 2000000 in
theorem kindBiR (S : Src7) (hS : S.Ok) (p : Nat) (b : Bool) (t : Int × Int) (x y : Ex) (hs : Sits S.xs p (.bi t x y)) (hw : (Ex.bi t x y).wf) (z1 z2 : Int) (hA : S.Knd (p + 1) b z1) (hB : S.Knd (p + 1 + x.flat.length) b z2) : S.Knd p b (doubleK t.1 z1 z2) := by
  intro W hW
  have hc0 := (hS.cells hs hW).1
  have hlt := hs.lt
  have hfew := hS.few
  have q0 : (0 : Int) ≤ (p : Int) := by omega
  have q1 : (p : Int) < (S.xs.length : Int) := by omega
  unfold Src7.Knd at hA hB
  have ep : ((p + 1 : Nat) : Int) = (p : Int) + 1 := by omega
  rw [ep] at hA
  have HA := Lib.hid (fun W' (h : Below W.heap.size W W') => hA W' (hW.trans (h.mono hW.size)))
  have HB := Lib.hid (fun W' (h : Below W.heap.size W W') => hB W' (hW.trans (h.mono hW.size)))
  have hop := opd_bi hs hw
  have HO := Lib.hid (fun W' (h : Below W.heap.size W W') => operandR_any (some ⟨S.b, S.o, none⟩) S.c S.xs p 1 W' (hS.links.below (hW.trans (h.mono hW.size))) (by omega))
  rw [hop] at HO
  have hw1 := hw.1
  obtain ⟨op, arg⟩ := t
  change W.cell? _ = some (.int .i64 op) at hc0
  dsimp only at hw1 ⊢
  have har := fun W => arityR_any op W
  rw [hw1] at har
  have hdb := fun W => doubleR_any op z1 z2 W (ar_bi7 hw1)
  clear hs hw hW hS hA hB hw1 hop
  generalize doubleK op z1 z2 = u at *
  generalize S.xs.length = m at *
  generalize S.ks.length = k at *
  generalize p + 1 + x.flat.length = q at *
  go_enter Try.func34, Try.ntmps34
  go_wp2_with (first
    | (go_at_call 21; refine (har _).mono ?_; rintro e w3 ⟨rfl, rfl⟩)
    | (go_at_call 22; refine (HO.out _ hb4).mono ?_; rintro e w6 ⟨rfl, hb6⟩; have hB6 := hb4.trans (hb6.mono hb4.size))
    | (go_at_call 34; first
        | ((with_reducible refine (HB.out _ hB6).mono ?_); rintro e w7 ⟨rfl, hb7⟩; have hB7 := hB6.trans (hb7.mono hB6.size))
        | ((with_reducible refine (HA.out _ (Below.refl _ _)).mono ?_); rintro e w4 ⟨rfl, hb4⟩))
    | (go_at_call 63; refine (hdb _).mono ?_; rintro e w5 ⟨rfl, rfl⟩))
  go_ret
  exact ⟨rfl, hB7⟩
set_option maxHeartbeats 2000000 in
theorem kindCondR (S : Src7) (hS : S.Ok) (p : Nat) (b : Bool) (t : Int × Int) (v x y : Ex) (hs : Sits S.xs p (.cond t v x y)) (hw : (Ex.cond t v x y).wf) (z1 z2 z3 : Int) (hA : S.Knd (p + 1) b z1) (hB : S.Knd (p + 1 + v.flat.length) b z2) (hC : S.Knd (p + 1 + v.flat.length + x.flat.length) b z3) : S.Knd p b (condK z1 z2 z3) := by
  intro W hW
  have hc0 := (hS.cells hs hW).1
  have hlt := hs.lt
  have hfew := hS.few
  have q0 : (0 : Int) ≤ (p : Int) := by omega
  have q1 : (p : Int) < (S.xs.length : Int) := by omega
  unfold Src7.Knd at hA hB hC
  have ep : ((p + 1 : Nat) : Int) = (p : Int) + 1 := by omega
  rw [ep] at hA
  have HA := Lib.hid (fun W' (h : Below W.heap.size W W') => hA W' (hW.trans (h.mono hW.size)))
  have HB := Lib.hid (fun W' (h : Below W.heap.size W W') => hB W' (hW.trans (h.mono hW.size)))
  have HC := Lib.hid (fun W' (h : Below W.heap.size W W') => hC W' (hW.trans (h.mono hW.size)))
  have hop1 := opd_c2 hs hw
  have hop2 := opd_c3 hs hw
  have HO1 := Lib.hid (fun W' (h : Below W.heap.size W W') => operandR_any (some ⟨S.b, S.o, none⟩) S.c S.xs p 1 W' (hS.links.below (hW.trans (h.mono hW.size))) (by omega))
  rw [hop1] at HO1
  have HO2 := Lib.hid (fun W' (h : Below W.heap.size W W') => operandR_any (some ⟨S.b, S.o, none⟩) S.c S.xs p 2 W' (hS.links.below (hW.trans (h.mono hW.size))) (by omega))
  rw [hop2] at HO2
  have hw1 := hw.1
  obtain ⟨op, arg⟩ := t
  change W.cell? _ = some (.int .i64 op) at hc0
  dsimp only at hw1 ⊢
  have har := fun W => arityR_any op W
  rw [hw1] at har
  clear hs hw hW hS hA hB hC hw1 hop1 hop2
  generalize S.xs.length = m at *
  generalize S.ks.length = k at *
  generalize p + 1 + v.flat.length + x.flat.length = q2 at *
  generalize p + 1 + v.flat.length = q at *
  unfold condK
  by_cases h1 : z1 = 2
  case neg =>
    have b1 : (z1 == 2) = false := by simp; omega
    rw [if_neg (by omega)]
    go_enter Try.func34, Try.ntmps34
    go_wp2_with (first
      | (go_at_call 21; refine (har _).mono ?_; rintro e w3 ⟨rfl, rfl⟩)
      | (go_at_call 22; first
          | ((with_reducible refine (HO2.out _ hB7).mono ?_); rintro e w8 ⟨rfl, hb8⟩; have hB8 := hB7.trans (hb8.mono hB7.size))
          | ((with_reducible refine (HO1.out _ hb4).mono ?_); rintro e w6 ⟨rfl, hb6⟩; have hB6 := hb4.trans (hb6.mono hb4.size)))
      | (go_at_call 34; first
          | ((with_reducible refine (HC.out _ hB8).mono ?_); rintro e w9 ⟨rfl, hb9⟩; have hB9 := hB8.trans (hb9.mono hB8.size))
          | ((with_reducible refine (HB.out _ hB6).mono ?_); rintro e w7 ⟨rfl, hb7⟩; have hB7 := hB6.trans (hb7.mono hB6.size))
          | ((with_reducible refine (HA.out _ (Below.refl _ _)).mono ?_); rintro e w4 ⟨rfl, hb4⟩)))
    go_ret
    exact ⟨rfl, hB9⟩
  subst h1
  by_cases h2 : z2 = z3
  case neg =>
    have b1 : (z2 == z3) = false := by simp; omega
    rw [if_neg (by omega)]
    go_enter Try.func34, Try.ntmps34
    go_wp2_with (first
      | (go_at_call 21; refine (har _).mono ?_; rintro e w3 ⟨rfl, rfl⟩)
      | (go_at_call 22; first
          | ((with_reducible refine (HO2.out _ hB7).mono ?_); rintro e w8 ⟨rfl, hb8⟩; have hB8 := hB7.trans (hb8.mono hB7.size))
          | ((with_reducible refine (HO1.out _ hb4).mono ?_); rintro e w6 ⟨rfl, hb6⟩; have hB6 := hb4.trans (hb6.mono hb4.size)))
      | (go_at_call 34; first
          | ((with_reducible refine (HC.out _ hB8).mono ?_); rintro e w9 ⟨rfl, hb9⟩; have hB9 := hB8.trans (hb9.mono hB8.size))
          | ((with_reducible refine (HB.out _ hB6).mono ?_); rintro e w7 ⟨rfl, hb7⟩; have hB7 := hB6.trans (hb7.mono hB6.size))
          | ((with_reducible refine (HA.out _ (Below.refl _ _)).mono ?_); rintro e w4 ⟨rfl, hb4⟩)))
    go_ret
    exact ⟨rfl, hB9⟩
  subst h2
  have b1 : (z2 == z2) = true := by simp
  rw [if_pos ⟨rfl, rfl⟩]
  go_enter Try.func34, Try.ntmps34
  go_wp2_with (first
    | (go_at_call 21; refine (har _).mono ?_; rintro e w3 ⟨rfl, rfl⟩)
    | (go_at_call 22; first
        | ((with_reducible refine (HO2.out _ hB7).mono ?_); rintro e w8 ⟨rfl, hb8⟩; have hB8 := hB7.trans (hb8.mono hB7.size))
        | ((with_reducible refine (HO1.out _ hb4).mono ?_); rintro e w6 ⟨rfl, hb6⟩; have hB6 := hb4.trans (hb6.mono hb4.size)))
    | (go_at_call 34; first
        | ((with_reducible refine (HC.out _ hB8).mono ?_); rintro e w9 ⟨rfl, hb9⟩; have hB9 := hB8.trans (hb9.mono hB8.size))
        | ((with_reducible refine (HB.out _ hB6).mono ?_); rintro e w7 ⟨rfl, hb7⟩; have hB7 := hB6.trans (hb7.mono hB6.size))
        | ((with_reducible refine (HA.out _ (Below.refl _ _)).mono ?_); rintro e w4 ⟨rfl, hb4⟩)))
  go_ret
  exact ⟨rfl, hB9⟩
theorem kindR_any (S : Src7) (hS : S.Ok) : ∀ (x : Ex) (p : Nat) (b : Bool), Sits S.xs p x → x.wf → x.args S.ks.length → S.Knd p b (x.kind S.ks b)
  | .leaf t, p, b, hs, hw, ha => kindLeafR S hS p b t hs hw (Ex.args_leaf ha)
  | .un t a, p, b, hs, hw, ha => kindUnR S hS p b t a hs hw.1 _ (kindR_any S hS a (p + 1) _ hs.un hw.2 (Ex.args_un ha).2)
  | .bi t x y, p, b, hs, hw, ha => kindBiR S hS p b t x y hs hw _ _ (kindR_any S hS x _ b hs.bi1 hw.2.1 (Ex.args_bi ha).2.1) (kindR_any S hS y _ b hs.bi2 hw.2.2 (Ex.args_bi ha).2.2)
  | .cond t v x y, p, b, hs, hw, ha => kindCondR S hS p b t v x y hs hw _ _ _ (kindR_any S hS v _ b hs.c1 hw.2.1 (Ex.args_cond ha).2.1) (kindR_any S hS x _ b hs.c2 hw.2.2.1 (Ex.args_cond ha).2.2.1) (kindR_any S hS y _ b hs.c3 hw.2.2.2 (Ex.args_cond ha).2.2.2)
end Go.Proofs.Ytckofngclgkajaa
namespace Go.Proofs.Ytckofngclgkajaa
set_option maxRecDepth 100000
open Go.RowKit

def okT (xs : List (Int × Int)) (ks : List Int) : Bool := decide (ks.length ≤ 6) && (ks.all knownK && validE xs ks.length)
/-- the type and the error for what kind answers -/
def outK (z : Int) : Int × Int := if z = 0 then (0, 6) else (z, 0)
/-- what Of answers -/
def OfSays (xs : List (Int × Int)) (ks : List Int) (b : Bool) (k f : Int) : Prop :=
  (okT xs ks = false ∧ k = 0 ∧ f = 7) ∨ (okT xs ks = true ∧ ∃ x : Ex, x.flat = xs ∧ x.wf ∧ x.args ks.length ∧ k = (outK (x.kind ks b)).1 ∧ f = (outK (x.kind ks b)).2)
theorem okT_parts {xs : List (Int × Int)} {ks : List Int} (h : okT xs ks = true) : ks.length ≤ 6 ∧ kindsOk ks ∧ validE xs ks.length = true := by
  unfold okT at h
  simp only [Bool.and_eq_true, decide_eq_true_eq, List.all_eq_true] at h
  refine ⟨h.1, fun k hk => ?_, h.2.2⟩
  have := h.2.1 k hk
  unfold knownK at this
  simpa using this
theorem valid_tree7 {xs : List (Int × Int)} {n : Int} (h : validE xs n = true) : ∃ x : Ex, x.flat = xs ∧ x.wf ∧ x.args n ∧ 0 < xs.length ∧ xs.length ≤ 200 := by
  unfold validE at h
  simp only [Bool.and_eq_true, decide_eq_true_eq] at h
  obtain ⟨x, hx, hw⟩ := one_tree h.1.1.1.2
  have h1 := eat_le (oneB_iff.1 h.1.1.1.2)
  exact ⟨x, hx, hw, by unfold Ex.args; rw [hx]; exact h.2, by omega, h.1.1.1.1⟩
theorem of_ex (xs : List (Int × Int)) (ks : List Int) (b : Bool) : ∃ k f, OfSays xs ks b k f := by
  cases h : okT xs ks with
  | false => exact ⟨0, 7, .inl ⟨h, rfl, rfl⟩⟩
  | true =>
    obtain ⟨x, hx, hw, ha, _⟩ := valid_tree7 (okT_parts h).2.2
    exact ⟨_, _, .inr ⟨h, x, hx, hw, ha, rfl, rfl⟩⟩
set_option maxHeartbeats 2000000 in
theorem ofR_any {k f : Int} (a : Option Addr) (c : Nat) (xs : List (Int × Int)) (ka : Option Addr) (kc : Nat) (ks : List Int) (b : Bool) (w : World) (hX : LinksAt w a xs) (hK : IntsAt w ka ks) (hn : xs.length ≤ 1000) (h : OfSays xs ks b k f) :
    Calls Try.prog 14 #[.slice a xs.length c, .slice ka ks.length kc, .bool b] w fun e w' => e = .returned (.tuple #[.int .i64 k, .int .i64 f]) ∧ Below w.heap.size w w' := by
  obtain ⟨m, hm⟩ : ∃ m, m = ks.length := ⟨_, rfl⟩
  by_cases h6 : 6 < ks.length
  · rcases h with ⟨_, rfl, rfl⟩ | ⟨h, _⟩
    case inr => have := (okT_parts h).1; omega
    have d : (6 : Int) < (m : Int) := by omega
    rw [← hm]
    clear hX hK hn h6 hm
    generalize xs.length = n at *
    go_enter Try.func14, Try.ntmps14
    go_wp2
    go_ret2
    exact ⟨rfl, Below.refl _ _⟩
  have d : decide ((6 : Int) < (m : Int)) = false := by simp; omega
  have hm6 : m ≤ 6 := by omega
  have HKn : Hid (∀ i, i < m → Calls Try.prog 33 #[.int .i64 (idA ks i)] w fun e w' => e = .returned (.bool (knownK (idA ks i))) ∧ w' = w) := Lib.hid (fun i _ => knownR_any _ w)
  have HBad : Hid (∀ i, i < m → knownK (idA ks i) = false → k = 0 ∧ f = 7) := Lib.hid (fun i hi hb => by
    rcases h with ⟨_, rfl, rfl⟩ | ⟨h, _⟩
    · exact ⟨rfl, rfl⟩
    · have := idA_kind (okT_parts h).2.1 (i := i) (by omega)
      unfold knownK at hb
      simp at hb
      omega)
  have HNot : Hid (validE xs m = false → k = 0 ∧ f = 7) := Lib.hid (fun hb => by
    rcases h with ⟨_, rfl, rfl⟩ | ⟨h, _⟩
    · exact ⟨rfl, rfl⟩
    · have := (okT_parts h).2.2
      rw [← hm, hb] at this
      cases this)
  have HYes : Hid ((∀ i, i < m → knownK (idA ks i) = true) → validE xs m = true → ∃ z, k = (outK z).1 ∧ f = (outK z).2 ∧ ∀ W, Below w.heap.size w W →
      Calls Try.prog 34 #[.slice a xs.length c, .int .i64 0, .slice ka m kc, .bool b] W fun e w' => e = .returned (.int .i64 z) ∧ Below W.heap.size W w') := Lib.hid (fun hk hv => by
    rcases h with ⟨h, _⟩ | ⟨h, x, hx, hw, ha, h1, h2⟩
    · unfold okT at h
      rw [← hm, hv, Bool.and_true, decide_eq_true (by omega : m ≤ 6), Bool.true_and] at h
      exfalso
      have : ks.all knownK = true := List.all_eq_true.2 fun y hy => by
        obtain ⟨i, hi, rfl⟩ := List.mem_iff_getElem.1 hy
        have := hk i (by omega)
        unfold idA at this
        rwa [List.getD_eq_getElem?_getD, List.getElem?_eq_getElem hi] at this
      rw [this] at h
      cases h
    · refine ⟨_, h1, h2, fun W hW => ?_⟩
      have h0 := (flat_top x)
      obtain ⟨r, hr⟩ := h0
      obtain ⟨g, o, rfl, _⟩ := hX.row (by rw [← hx, hr]; simp)
      have hh := kindR_any (Src7.mk w g o c xs ka kc ks) ⟨hX, hK, hn⟩ x 0 b ⟨[], by show xs.drop 0 = x.flat ++ []; rw [hx]; simp⟩ hw ha W hW
      rw [hm]
      exact hh)
  have HV := Lib.hid (fun W (hb : Below w.heap.size w W) => validR_any a c xs m W (hX.below hb) hn)
  have HC : Hid (∀ i, i < m → ∃ g o, ka = some ⟨g, o, none⟩ ∧ w.cell? ⟨g, o + i, none⟩ = some (.int .i64 (idA ks i))) := Lib.hid (fun i hi => by
    obtain ⟨g, o, e, _, hc⟩ := hK.row (by omega)
    exact ⟨g, o, e, hc i (by omega)⟩)
  rw [← hm]
  clear h h6 hX hK hn hm
  generalize xs.length = n at *
  go_enter Try.func14, Try.ntmps14
  go_wp2
  go_loop [8] (fun t => ∃ i : Nat, t = .int .i64 i ∧ i ≤ m ∧ (∀ j, j < i → knownK (idA ks j) = true)) (fun t => m - (intOf t).toNat)
  case atStart => exact ⟨0, rfl, Nat.zero_le _, (fun j h => by omega)⟩
  case round =>
    obtain ⟨i, rfl, hi, hlow⟩ := hrel
    have HL := Lib.hid hlow
    clear hlow
    by_cases hlt : i < m
    · obtain ⟨g, o, rfl, hc⟩ := HC.out i hlt
      have hkn := HKn.out i hlt
      have hbad := HBad.out i hlt
      have hstep : Hid (knownK (idA ks i) = true → ∀ j, j < i + 1 → knownK (idA ks j) = true) := Lib.hid (fun h j hj => by
        rcases Nat.lt_or_ge j i with h1 | h1
        · exact HL.out j h1
        · obtain rfl : j = i := by omega
          exact h)
      cases hq : knownK (idA ks i) with
      | false =>
        obtain ⟨rfl, rfl⟩ := hbad hq
        rw [hq] at hkn
        clear hbad hstep hq
        generalize idA ks i = y at *
        go_wp2_with (go_at_call 33; refine hkn.mono ?_; rintro e w1 ⟨rfl, rfl⟩)
        go_ret2
        exact ⟨rfl, Below.refl _ _⟩
      | true =>
        rw [hq] at hkn
        have hst := Lib.hid (hstep.out hq)
        clear hbad hstep hq
        generalize hy : idA ks i = y at hkn hc
        clear hy
        go_wp2_with (go_at_call 33; refine hkn.mono ?_; rintro e w1 ⟨rfl, rfl⟩)
        go_round
        case rel => exact ⟨i + 1, by go_num, by omega, hst.out⟩
        case measure => simp [intOf]; omega
    · obtain rfl : i = m := by omega
      cases hv : validE xs i with
      | false =>
        obtain ⟨rfl, rfl⟩ := HNot.out hv
        rw [hv] at HV
        clear hv
        go_wp2_with (go_at_call 25; refine (HV.out _ (Below.refl _ _)).mono ?_; rintro e w1 ⟨rfl, hb1⟩)
        go_ret2
        exact ⟨rfl, hb1⟩
      | true =>
        obtain ⟨z, hk, hf, hz⟩ := HYes.out HL.out hv
        have HZ := Lib.hid hz
        rw [hv] at HV
        clear hv hz
        by_cases h0 : z = 0
        · subst h0
          rw [show outK 0 = (0, 6) from rfl] at hk hf
          subst hk hf
          go_wp2_with (first
            | (go_at_call 25; refine (HV.out _ (Below.refl _ _)).mono ?_; rintro e w1 ⟨rfl, hb1⟩)
            | (go_at_call 34; refine (HZ.out _ hb1).mono ?_; rintro e w2 ⟨rfl, hb2⟩))
          go_ret2
          exact ⟨rfl, hb1.trans (hb2.mono hb1.size)⟩
        · rw [show outK z = (z, 0) from if_neg h0] at hk hf
          have b0 : (z == 0) = false := by simp; omega
          subst hk hf
          go_wp2_with (first
            | (go_at_call 25; refine (HV.out _ (Below.refl _ _)).mono ?_; rintro e w1 ⟨rfl, hb1⟩)
            | (go_at_call 34; refine (HZ.out _ hb1).mono ?_; rintro e w2 ⟨rfl, hb2⟩))
          go_ret2
          exact ⟨rfl, hb1.trans (hb2.mono hb1.size)⟩
end Go.Proofs.Ytckofngclgkajaa
