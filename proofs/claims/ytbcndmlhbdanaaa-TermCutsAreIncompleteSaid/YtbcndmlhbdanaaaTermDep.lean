/- What Depth and Nest of the program answer. -/
import Derived.Test.YtbcndmlhbdanaaaTermMostN
namespace Go.Proofs.Ytbcndmlhbdanaaa
open Go.RowKit

theorem most0_any (a : Option Addr) (c : Nat) (xs : List (Int × Int)) (fv : Value) (w : World) (hX : LinksAt w a xs) (hn : xs.length ≤ 1000) (h1 : oneB xs = false) (hf : fv = .func (.func 34) #[] #[] ∨ fv = .func (.func 37) #[] #[]) :
    Calls Try.prog 33 #[.slice a xs.length c, fv] w fun e w' => e = .returned (.int .i64 0) ∧ Below w.heap.size w w' := by
  have he : (endF xs 0 != xs.length) = true := by
    rw [one_end] at h1
    simpa using h1
  have HE := Lib.hid (fun (W : World) (hb : Below w.heap.size w W) => endP_any a c xs 0 W (hX.below hb) (by omega))
  generalize xs.length = m at HE he ⊢
  generalize endF xs 0 = z at HE he
  have hB0 : ∀ fv, Below w.heap.size w (w.alloc (.cells #[fv] 43)) := fun fv => (Below.refl _ w).alloc (Nat.le_refl _) _
  clear hX h1
  rcases hf with rfl | rfl
  all_goals
    have hB1 := hB0 (.func (.func 34) #[] #[])
    have hB2 := hB0 (.func (.func 37) #[] #[])
    have HE1 := Lib.hid (HE.out _ hB1)
    have HE2 := Lib.hid (HE.out _ hB2)
    clear HE hB0
    go_enter Try.func33, Try.ntmps33
    go_wp2_with (go_at_call 14; first | (with_reducible refine HE1.out.mono ?_; rintro e w1 ⟨rfl, hb1⟩) | (with_reducible refine HE2.out.mono ?_; rintro e w1 ⟨rfl, hb1⟩))
    go_ret
    exact ⟨rfl, by first | exact hB1.trans (hb1.mono hB1.size) | exact hB2.trans (hb1.mono hB2.size)⟩
theorem depthP_any (a : Option Addr) (c : Nat) (xs : List (Int × Int)) (w : World) (hX : LinksAt w a xs) (hn : xs.length ≤ 1000) :
    Calls Try.prog 18 #[.slice a xs.length c] w fun e w' => e = .returned (.int .i64 (depF xs)) ∧ Below w.heap.size w w' := by
  have HO : Hid (Calls Try.prog 33 #[.slice a xs.length c, .func (.func 34) #[] #[]] w fun e w' => e = .returned (.int .i64 (depF xs)) ∧ Below w.heap.size w w') := by
    refine Lib.hid ?_
    unfold depF
    cases h : oneB xs with
    | false => exact most0_any a c xs _ w hX hn h (.inl rfl)
    | true => exact mostA_any a c xs w hX hn h
  generalize depF xs = d at HO ⊢
  generalize xs.length = m at HO ⊢
  clear hX hn
  go_enter Try.func18, Try.ntmps18
  go_wp2_with (go_at_call 33; refine HO.out.mono ?_; rintro e w1 ⟨rfl, hb1⟩)
  go_ret
  exact ⟨rfl, hb1⟩
theorem nestP_any (a : Option Addr) (c : Nat) (xs : List (Int × Int)) (w : World) (hX : LinksAt w a xs) (hn : xs.length ≤ 1000) :
    Calls Try.prog 20 #[.slice a xs.length c] w fun e w' => e = .returned (.int .i64 (nesF xs)) ∧ Below w.heap.size w w' := by
  have HO : Hid (Calls Try.prog 33 #[.slice a xs.length c, .func (.func 37) #[] #[]] w fun e w' => e = .returned (.int .i64 (nesF xs)) ∧ Below w.heap.size w w') := by
    refine Lib.hid ?_
    unfold nesF
    cases h : oneB xs with
    | false => exact most0_any a c xs _ w hX hn h (.inr rfl)
    | true => exact mostB_any a c xs w hX hn h
  generalize nesF xs = d at HO ⊢
  generalize xs.length = m at HO ⊢
  clear hX hn
  go_enter Try.func20, Try.ntmps20
  go_wp2_with (go_at_call 33; refine HO.out.mono ?_; rintro e w1 ⟨rfl, hb1⟩)
  go_ret
  exact ⟨rfl, hb1⟩
end Go.Proofs.Ytbcndmlhbdanaaa
