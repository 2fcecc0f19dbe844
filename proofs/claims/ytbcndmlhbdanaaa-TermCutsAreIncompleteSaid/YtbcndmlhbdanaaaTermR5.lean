/- What Depth, Nest and Valid of the specification of layer 5 answer. -/
import Derived.Test.YtbcndmlhbdanaaaTermR4
namespace Go.Proofs.Ytbcndmlhbdanaaa
open Go.RowKit

def depF (xs : List (Int × Int)) : Int := if oneB xs = true then ((levF xs).1 : Int) else 0
def nesF (xs : List (Int × Int)) : Int := if oneB xs = true then ((levF xs).2 : Int) else 0
def validE (xs : List (Int × Int)) (vars : Int) : Bool := decide (xs.length ≤ 200) && oneB xs && decide (depF xs ≤ 24) && decide (nesF xs ≤ 2) && xs.all fun t => argB t vars

theorem depthR_any (a : Option Addr) (c : Nat) (xs : List (Int × Int)) (w : World) (hX : LinksAt w a xs) (hn : xs.length ≤ 1000) :
    Calls Try.prog 19 #[.slice a xs.length c] w fun e w' => e = .returned (.int .i64 (depF xs)) ∧ Below w.heap.size w w' := by
  have HO := Lib.hid (oneR_any a c xs w hX (by omega))
  have HL := Lib.hid (fun (W : World) (hb : Below w.heap.size w W) => levelsR_any a c xs W (hX.below hb) hn)
  unfold depF
  generalize oneB xs = b at HO ⊢
  generalize levF xs = z at HL ⊢
  obtain ⟨d, n⟩ := z
  dsimp only at HL ⊢
  generalize xs.length = m at HO HL ⊢
  clear hX hn
  cases b with
  | false =>
    go_enter Try.func19, Try.ntmps19
    go_wp2_with (go_at_call 35; refine HO.out.mono ?_; rintro e w1 ⟨rfl, hb1⟩)
    go_ret
    exact ⟨rfl, hb1⟩
  | true =>
    go_enter Try.func19, Try.ntmps19
    go_wp2_with (first | (go_at_call 35; refine HO.out.mono ?_; rintro e w1 ⟨rfl, hb1⟩) | (go_at_call 36; refine (HL.out _ hb1).mono ?_; rintro e w2 ⟨rfl, hb2⟩))
    go_ret
    exact ⟨rfl, hb1.trans (hb2.mono hb1.size)⟩
theorem nestR_any (a : Option Addr) (c : Nat) (xs : List (Int × Int)) (w : World) (hX : LinksAt w a xs) (hn : xs.length ≤ 1000) :
    Calls Try.prog 21 #[.slice a xs.length c] w fun e w' => e = .returned (.int .i64 (nesF xs)) ∧ Below w.heap.size w w' := by
  have HO := Lib.hid (oneR_any a c xs w hX (by omega))
  have HL := Lib.hid (fun (W : World) (hb : Below w.heap.size w W) => levelsR_any a c xs W (hX.below hb) hn)
  unfold nesF
  generalize oneB xs = b at HO ⊢
  generalize levF xs = z at HL ⊢
  obtain ⟨d, n⟩ := z
  dsimp only at HL ⊢
  generalize xs.length = m at HO HL ⊢
  clear hX hn
  cases b with
  | false =>
    go_enter Try.func21, Try.ntmps21
    go_wp2_with (go_at_call 35; refine HO.out.mono ?_; rintro e w1 ⟨rfl, hb1⟩)
    go_ret
    exact ⟨rfl, hb1⟩
  | true =>
    go_enter Try.func21, Try.ntmps21
    go_wp2_with (first | (go_at_call 35; refine HO.out.mono ?_; rintro e w1 ⟨rfl, hb1⟩) | (go_at_call 36; refine (HL.out _ hb1).mono ?_; rintro e w2 ⟨rfl, hb2⟩))
    go_ret
    exact ⟨rfl, hb1.trans (hb2.mono hb1.size)⟩
theorem all_upto {xs : List (Int × Int)} {p : Int × Int → Bool} (h : ∀ i, i < xs.length → p (toA xs i, wtA xs i) = true) : xs.all p = true := by
  rw [List.all_eq_true]
  intro x hx
  obtain ⟨i, hi, rfl⟩ := List.mem_iff_getElem.1 hx
  have := h i hi
  simpa [toA, wtA, hi] using this
theorem not_all {xs : List (Int × Int)} {p : Int × Int → Bool} {i : Nat} (hi : i < xs.length) (h : p (toA xs i, wtA xs i) = false) : xs.all p = false := by
  rw [Bool.eq_false_iff]
  intro h2
  rw [List.all_eq_true] at h2
  have := h2 xs[i] (List.getElem_mem hi)
  simp [toA, wtA, hi] at h
  rw [h] at this
  cases this

set_option maxHeartbeats 1000000 in
theorem validR_any (a : Option Addr) (c : Nat) (xs : List (Int × Int)) (vars : Int) (w : World) (hX : LinksAt w a xs) (hn : xs.length ≤ 1000) :
    Calls Try.prog 27 #[.slice a xs.length c, .int .i64 vars] w fun e w' => e = .returned (.bool (validE xs vars)) ∧ Below w.heap.size w w' := by
  have HX := Lib.hid hX
  have HO := Lib.hid (fun (W : World) (hb : Below w.heap.size w W) => oneR_any a c xs W (hX.below hb) (by omega))
  have HD := Lib.hid (fun (W : World) (hb : Below w.heap.size w W) => depthR_any a c xs W (hX.below hb) hn)
  have HE := Lib.hid (fun (W : World) (hb : Below w.heap.size w W) => nestR_any a c xs W (hX.below hb) hn)
  obtain ⟨m, hm⟩ : ∃ m, m = xs.length := ⟨_, rfl⟩
  have HM := Lib.hid hm
  obtain ⟨V, hV⟩ : ∃ V, V = validE xs vars := ⟨_, rfl⟩
  rw [← hV]
  unfold validE at hV
  obtain ⟨A, hA⟩ : ∃ A, A = xs.all fun t => argB t vars := ⟨_, rfl⟩
  have HA := Lib.hid hA
  rw [← hA, ← hm] at hV
  rw [← hm] at HO HD HE hn ⊢
  clear hm hX hA
  generalize oneB xs = b at HO hV
  generalize depF xs = d at HD hV
  generalize nesF xs = n at HE hV
  by_cases h1 : m ≤ 200
  case neg =>
    have hf : V = false := by rw [hV]; simp [h1]
    have d1 : decide ((m : Int) > 200) = true := by simp; omega
    clear hV
    go_enter Try.func27, Try.ntmps27
    go_wp2
    go_ret
    exact ⟨ret_bool hf.symm, by first | exact Below.refl _ _ | exact belDraws (Below.refl _ _) _⟩
  have d1 : decide ((m : Int) > 200) = false := by simp; omega
  have d1' : decide (200 < m) = false := by simp; omega
  cases b with
  | false =>
    have hf : V = false := by rw [hV]; simp
    clear hV
    go_enter Try.func27, Try.ntmps27
    go_wp2_with (go_at_call 35; refine (HO.out _ (Below.refl _ _)).mono ?_; rintro e w1 ⟨rfl, hb1⟩)
    go_ret
    exact ⟨ret_bool hf.symm, hb1⟩
  | true =>
  by_cases h2 : d ≤ 24
  case neg =>
    have hf : V = false := by rw [hV]; simp [h2]
    have d2 : decide (d > 24) = true := by simp; omega
    clear hV
    go_enter Try.func27, Try.ntmps27
    go_wp2_with (first | (go_at_call 35; refine (HO.out _ (Below.refl _ _)).mono ?_; rintro e w1 ⟨rfl, hb1⟩) | (go_at_call 19; refine (HD.out _ hb1).mono ?_; rintro e w2 ⟨rfl, hb2⟩))
    go_ret
    exact ⟨ret_bool hf.symm, hb1.trans (hb2.mono hb1.size)⟩
  have d2 : decide (d > 24) = false := by simp; omega
  by_cases h3 : n ≤ 2
  case neg =>
    have hf : V = false := by rw [hV]; simp [h3]
    have d3 : decide (n > 2) = true := by simp; omega
    clear hV
    go_enter Try.func27, Try.ntmps27
    go_wp2_with (first | (go_at_call 35; refine (HO.out _ (Below.refl _ _)).mono ?_; rintro e w1 ⟨rfl, hb1⟩) | (go_at_call 19; refine (HD.out _ hb1).mono ?_; rintro e w2 ⟨rfl, hb2⟩; have hb12 := hb1.trans (hb2.mono hb1.size)) | (go_at_call 21; refine (HE.out _ hb12).mono ?_; rintro e w3 ⟨rfl, hb3⟩))
    go_ret
    exact ⟨ret_bool hf.symm, hb12.trans (hb3.mono hb12.size)⟩
  have d3 : decide (n > 2) = false := by simp; omega
  have hf : V = A := by rw [hV]; simp [h1, h2, h3]
  have HF := Lib.hid hf
  clear hV hf
  go_enter Try.func27, Try.ntmps27
  go_wp2_with (first | (go_at_call 35; refine (HO.out _ (Below.refl _ _)).mono ?_; rintro e w1 ⟨rfl, hb1⟩) | (go_at_call 19; refine (HD.out _ hb1).mono ?_; rintro e w2 ⟨rfl, hb2⟩; have hb12 := hb1.trans (hb2.mono hb1.size)) | (go_at_call 21; refine (HE.out _ hb12).mono ?_; rintro e w3 ⟨rfl, hb3⟩))
  have HB3 := Lib.hid (hb12.trans (hb3.mono hb12.size))
  clear hb1 hb2 hb12 hb3
  go_loopw [5] (fun t wr => ∃ i : Nat, t = .int .i64 i ∧ i ≤ m ∧ (∀ j, j < i → argB (toA xs j, wtA xs j) vars = true) ∧ Below w.heap.size w wr) (fun t _ => m - (intOf t).toNat)
  case atStart => exact ⟨0, rfl, Nat.zero_le _, fun j hj => absurd hj (by omega), by first | exact HB3.out | exact belDraws HB3.out _⟩
  case round =>
    obtain ⟨i, rfl, him, hs, hbr⟩ := hrel
    have HS := Lib.hid hs
    have HBr := Lib.hid hbr
    clear hs hbr
    by_cases hlt : i < m
    · obtain ⟨lb, lo, rfl, hlb, hls⟩ := HX.out.row (by rw [← HM.out]; omega)
      have hxl : i < xs.length := by rw [← HM.out]; exact hlt
      have g1 := (HBr.out.cell (p := ⟨lb, lo + i * 2, none⟩) hlb).trans (hls i hxl).1
      have g2 := (HBr.out.cell (p := ⟨lb, lo + i * 2 + 1, none⟩) hlb).trans (hls i hxl).2
      have hii : (i : Int) < m := by omega
      clear hls
      cases hab : argB (toA xs i, wtA xs i) vars with
      | true =>
        have HS2 : Hid (∀ j, j < i + 1 → argB (toA xs j, wtA xs j) vars = true) := Lib.hid (fun j hj => by
          by_cases h : j < i
          · exact HS.out j h
          · rw [show j = i by omega]; exact hab)
        generalize toA xs i = op at g1 hab
        generalize wtA xs i = x at g2 hab
        have HAB := Lib.hid hab
        clear hab
        go_wp2_with (go_at_call 44; refine (argR_any op x vars _).mono ?_; rintro e w4 ⟨rfl, hb4⟩; rw [HAB.out])
        have hb5 := HBr.out.trans (hb4.mono HBr.out.size)
        go_roundw
        case rel => exact ⟨i + 1, by go_num, by omega, HS2.out, hb5⟩
        case measure => simp [intOf]; omega
      | false =>
        have hv : V = false := by
          rw [HF.out, HA.out]
          exact not_all hxl hab
        generalize toA xs i = op at g1 hab
        generalize wtA xs i = x at g2 hab
        have HAB := Lib.hid hab
        clear hab
        go_wp2_with (go_at_call 44; refine (argR_any op x vars _).mono ?_; rintro e w4 ⟨rfl, hb4⟩; rw [HAB.out])
        have hb5 := HBr.out.trans (hb4.mono HBr.out.size)
        go_ret
        exact ⟨ret_bool hv.symm, hb5⟩
    · obtain rfl : i = m := by omega
      have hv : V = true := by
        rw [HF.out, HA.out]
        exact all_upto (fun j hj => HS.out j (by rw [HM.out]; exact hj))
      go_wp2
      go_ret
      exact ⟨ret_bool hv.symm, by first | exact HBr.out | exact belDraws HBr.out _⟩
end Go.Proofs.Ytbcndmlhbdanaaa
