/- What the tests of single bytes answer, of the program and of the specification. -/
import Derived.Test.YtebhfcjkaoldmaaBase
import Derived.Test.YtebhfcjkaoldmaaLexMath
namespace Go.Proofs.Ytebhfcjkaoldmaa
open Go.RowKit

theorem letter_any (b : UInt8) (w : World) : Calls Try.prog 25 #[.int .u8 (b.toNat : Int)] w fun e w' => e = .returned (.bool (isLet b)) ∧ w' = w := by
  have hb := b.toNat_lt
  unfold isLet
  generalize b.toNat = n at *
  by_cases h1 : 97 ≤ n
  all_goals by_cases h2 : n ≤ 122
  all_goals by_cases h3 : 65 ≤ n
  all_goals by_cases h4 : n ≤ 90
  all_goals first
    | omega
    | (go_enter Try.func25, Try.ntmps25
       go_wp2
       go_ret
       exact ⟨ret_bool (by rw [Bool.eq_iff_iff] <;> simp <;> omega), rfl⟩)
theorem letterR_any (b : UInt8) (w : World) : Calls Try.prog 28 #[.int .u8 (b.toNat : Int)] w fun e w' => e = .returned (.bool (isLet b)) ∧ w' = w := by
  have hb := b.toNat_lt
  unfold isLet
  generalize b.toNat = n at *
  by_cases h1 : 97 ≤ n
  all_goals by_cases h2 : n ≤ 122
  all_goals by_cases h3 : 65 ≤ n
  all_goals by_cases h4 : n ≤ 90
  all_goals first
    | omega
    | (go_enter Try.func28, Try.ntmps28
       go_wp2
       go_ret
       exact ⟨ret_bool (by rw [Bool.eq_iff_iff] <;> simp <;> omega), rfl⟩)
theorem digit_any (b : UInt8) (w : World) : Calls Try.prog 32 #[.int .u8 (b.toNat : Int)] w fun e w' => e = .returned (.bool (isDgt b)) ∧ w' = w := by
  have hb := b.toNat_lt
  unfold isDgt
  generalize b.toNat = n at *
  by_cases h1 : 48 ≤ n
  all_goals by_cases h2 : n ≤ 57
  all_goals first
    | omega
    | (go_enter Try.func32, Try.ntmps32
       go_wp2
       go_ret
       exact ⟨ret_bool (by rw [Bool.eq_iff_iff] <;> simp <;> omega), rfl⟩)
theorem digitR_any (b : UInt8) (w : World) : Calls Try.prog 35 #[.int .u8 (b.toNat : Int)] w fun e w' => e = .returned (.bool (isDgt b)) ∧ w' = w := by
  have hb := b.toNat_lt
  unfold isDgt
  generalize b.toNat = n at *
  by_cases h1 : 48 ≤ n
  all_goals by_cases h2 : n ≤ 57
  all_goals first
    | omega
    | (go_enter Try.func35, Try.ntmps35
       go_wp2
       go_ret
       exact ⟨ret_bool (by rw [Bool.eq_iff_iff] <;> simp <;> omega), rfl⟩)
theorem byte_eq (b : UInt8) (k : Nat) (hk : k < 256) : (((b.toNat : Nat) : Int) == (k : Int)) = (b == UInt8.ofNat k) := by
  rw [Bool.eq_iff_iff, beq_iff_eq, beq_iff_eq]
  constructor
  · intro h
    apply UInt8.toNat_inj.1
    rw [UInt8.toNat_ofNat']
    omega
  · rintro rfl
    rw [UInt8.toNat_ofNat']
    omega
theorem inWord_any (b : UInt8) (w : World) : Calls Try.prog 27 #[.int .u8 (b.toNat : Int)] w fun e w' => e = .returned (.bool (isIn b)) ∧ w' = w := by
  unfold isIn
  have hl := fun w => letter_any b w
  have hd := fun w => digit_any b w
  have h95 := byte_eq b 95 (by decide)
  cases h1 : isLet b <;> rw [h1] at hl
  · cases h2 : isDgt b <;> rw [h2] at hd
    · cases h3 : b == 95 <;> (rw [show UInt8.ofNat 95 = (95 : UInt8) from rfl, h3] at h95; clear h1 h2 h3)
      all_goals
        have h95 : ((b.toNat : Int) == 95) = _ := h95
        go_enter Try.func27, Try.ntmps27
        go_wp2_with (first | (go_at_call 25; refine (hl _).mono ?_; rintro e w1 ⟨rfl, rfl⟩) | (go_at_call 32; refine (hd _).mono ?_; rintro e w1 ⟨rfl, rfl⟩))
        go_ret
        exact ⟨rfl, rfl⟩
    · clear h1 h2 h95
      go_enter Try.func27, Try.ntmps27
      go_wp2_with (first | (go_at_call 25; refine (hl _).mono ?_; rintro e w1 ⟨rfl, rfl⟩) | (go_at_call 32; refine (hd _).mono ?_; rintro e w1 ⟨rfl, rfl⟩))
      go_ret
      exact ⟨rfl, rfl⟩
  · clear h1 h95 hd
    go_enter Try.func27, Try.ntmps27
    go_wp2_with (go_at_call 25; refine (hl _).mono ?_; rintro e w1 ⟨rfl, rfl⟩)
    go_ret
    exact ⟨rfl, rfl⟩
theorem inner_any (b : UInt8) (w : World) : Calls Try.prog 29 #[.int .u8 (b.toNat : Int)] w fun e w' => e = .returned (.bool (isIn b)) ∧ w' = w := by
  unfold isIn
  have hl := fun w => letterR_any b w
  have hd := fun w => digitR_any b w
  have h95 := byte_eq b 95 (by decide)
  cases h1 : isLet b <;> rw [h1] at hl
  · cases h2 : isDgt b <;> rw [h2] at hd
    · cases h3 : b == 95 <;> (rw [show UInt8.ofNat 95 = (95 : UInt8) from rfl, h3] at h95; clear h1 h2 h3)
      all_goals
        have h95 : ((b.toNat : Int) == 95) = _ := h95
        go_enter Try.func29, Try.ntmps29
        go_wp2_with (first | (go_at_call 28; refine (hl _).mono ?_; rintro e w1 ⟨rfl, rfl⟩) | (go_at_call 35; refine (hd _).mono ?_; rintro e w1 ⟨rfl, rfl⟩))
        go_ret
        exact ⟨rfl, rfl⟩
    · clear h1 h2 h95
      go_enter Try.func29, Try.ntmps29
      go_wp2_with (first | (go_at_call 28; refine (hl _).mono ?_; rintro e w1 ⟨rfl, rfl⟩) | (go_at_call 35; refine (hd _).mono ?_; rintro e w1 ⟨rfl, rfl⟩))
      go_ret
      exact ⟨rfl, rfl⟩
  · clear h1 h95 hd
    go_enter Try.func29, Try.ntmps29
    go_wp2_with (go_at_call 28; refine (hl _).mono ?_; rintro e w1 ⟨rfl, rfl⟩)
    go_ret
    exact ⟨rfl, rfl⟩
theorem blank_any (b : UInt8) (w : World) : Calls Try.prog 31 #[.int .u8 (b.toNat : Int)] w fun e w' => e = .returned (.bool (isBl b)) ∧ w' = w := by
  unfold isBl
  have h32 := byte_eq b 32 (by decide)
  have h9 := byte_eq b 9 (by decide)
  have h10 := byte_eq b 10 (by decide)
  have h13 := byte_eq b 13 (by decide)
  rw [show UInt8.ofNat 32 = (32 : UInt8) from rfl] at h32
  rw [show UInt8.ofNat 9 = (9 : UInt8) from rfl] at h9
  rw [show UInt8.ofNat 10 = (10 : UInt8) from rfl] at h10
  rw [show UInt8.ofNat 13 = (13 : UInt8) from rfl] at h13
  generalize (b == 32) = p at *
  generalize (b == 9) = q at *
  generalize (b == 10) = r at *
  generalize (b == 13) = s at *
  have h32 : ((b.toNat : Int) == 32) = p := h32
  have h9 : ((b.toNat : Int) == 9) = q := h9
  have h10 : ((b.toNat : Int) == 10) = r := h10
  have h13 : ((b.toNat : Int) == 13) = s := h13
  cases p
  · cases q
    · cases r
      · cases s
        all_goals
          go_enter Try.func31, Try.ntmps31
          go_wp2
          go_ret
          exact ⟨rfl, rfl⟩
      · go_enter Try.func31, Try.ntmps31
        go_wp2
        go_ret
        exact ⟨rfl, rfl⟩
    · go_enter Try.func31, Try.ntmps31
      go_wp2
      go_ret
      exact ⟨rfl, rfl⟩
  · go_enter Try.func31, Try.ntmps31
    go_wp2
    go_ret
    exact ⟨rfl, rfl⟩
end Go.Proofs.Ytebhfcjkaoldmaa
