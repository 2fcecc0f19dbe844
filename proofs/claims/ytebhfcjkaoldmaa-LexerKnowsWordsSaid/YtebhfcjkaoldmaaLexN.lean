/- What Name of both sides answers. -/
import Derived.Test.YtebhfcjkaoldmaaLexR
namespace Go.Proofs.Ytebhfcjkaoldmaa
open Go.RowKit

def nameF (l : Bytes) : Bool := match l with
  | [] => false
  | x :: r => decide ((x :: r).length ≤ 24) && isLet x && decide (runF isIn (x :: r) = (x :: r).length) && !resF (x :: r)
theorem name_empty : nameF [] = false := rfl
theorem name_at (s : ByteArray) (h : 0 < s.size) : nameF s.data.toList = (decide (s.size ≤ 24) && isLet s[0] && decide (runAt isIn s 0 = s.size) && !resF s.data.toList) := by
  have hl : s.data.toList.length = s.size := by simp
  have e := drop_at s h
  rw [List.drop_zero] at e
  unfold runAt
  rw [List.drop_zero, Nat.zero_add, ← hl]
  have key : ∀ (T : Bytes) (x : UInt8) (r : Bytes), T = x :: r → nameF T = (decide (T.length ≤ 24) && isLet x && decide (runF isIn T = T.length) && !resF T) := by
    rintro T x r rfl
    rfl
  exact key _ _ _ e
theorem word_empty (s : ByteArray) : s.toList.isEmpty = decide (s.size = 0) := by
  have hl : s.data.toList.length = s.size := by simp
  rw [ByteArray.toList_eq]
  rw [Bool.eq_iff_iff, List.isEmpty_iff, decide_eq_true_iff]
  constructor
  · intro e
    rw [e] at hl
    simp at hl
    omega
  · intro e
    rw [e] at hl
    exact List.length_eq_zero_iff.1 hl

set_option maxHeartbeats 2000000 in
theorem name_any (s : ByteArray) (w : World) : Calls Try.prog 16 #[.string s] w fun e w' => e = .returned (.bool (nameF s.data.toList)) ∧ w' = w := by
  have hem := word_empty s
  by_cases h0 : s.size = 0
  · have e0 : s.toList.isEmpty = true := by rw [hem]; simp [h0]
    have HN : Hid (nameF s.data.toList = false) := Lib.hid (by
      have : s.data.toList = [] := List.length_eq_zero_iff.1 (by simpa using h0)
      rw [this]; rfl)
    clear hem
    go_enter Try.func16, Try.ntmps16
    go_wp2
    go_ret
    exact ⟨ret_bool (by rw [HN.out]), rfl⟩
  have e0 : s.toList.isEmpty = false := by rw [hem]; simp [h0]
  have hp : 0 < s.size := by omega
  have HN := Lib.hid (name_at s hp)
  clear hem
  by_cases h24 : 24 < s.size
  · have HF : Hid (nameF s.data.toList = false) := Lib.hid (by rw [HN.out]; simp; omega)
    have d24 : decide (24 < (s.size : Int)) = true := by simp; omega
    go_enter Try.func16, Try.ntmps16
    go_wp2
    go_ret
    exact ⟨ret_bool (by rw [HF.out]), rfl⟩
  have d24 : decide (24 < (s.size : Int)) = false := by simp; omega
  have hlet := fun w => letter_any s[0] w
  cases hl : isLet s[0]
  · have HF : Hid (nameF s.data.toList = false) := Lib.hid (by rw [HN.out, hl]; simp)
    rw [hl] at hlet
    go_enter Try.func16, Try.ntmps16
    go_wp2_with (go_at_call 25; refine (hlet _).mono ?_; rintro e w1 ⟨rfl, rfl⟩)
    go_ret
    exact ⟨ret_bool (by rw [HF.out]), rfl⟩
  rw [hl] at hlet
  have hbeh := fun w => behind_in s 0 w (by omega) (by omega)
  have hres := fun w => res_any s w
  by_cases hr : runAt isIn s 0 = s.size
  · rw [hr] at hbeh
    have HF : Hid (nameF s.data.toList = !resF s.data.toList) := Lib.hid (by rw [HN.out, hl]; simp [hr]; omega)
    go_enter Try.func16, Try.ntmps16
    go_wp2_with (first | (go_at_call 25; refine (hlet _).mono ?_; rintro e w1 ⟨rfl, rfl⟩) | (go_at_call 26; refine (hbeh _).mono ?_; rintro e w1 ⟨rfl, rfl⟩) | (go_at_call 14; refine (hres _).mono ?_; rintro e w1 ⟨rfl, rfl⟩))
    go_ret
    exact ⟨ret_bool (by rw [HF.out]), rfl⟩
  · have HF : Hid (nameF s.data.toList = false) := Lib.hid (by rw [HN.out]; simp [hr])
    have hne : (((runAt isIn s 0 : Nat) : Int) == s.size) = false := by simp; omega
    generalize runAt isIn s 0 = E at *
    go_enter Try.func16, Try.ntmps16
    go_wp2_with (first | (go_at_call 25; refine (hlet _).mono ?_; rintro e w1 ⟨rfl, rfl⟩) | (go_at_call 26; refine (hbeh _).mono ?_; rintro e w1 ⟨rfl, rfl⟩))
    go_ret
    exact ⟨ret_bool (by rw [HF.out]), rfl⟩

set_option maxHeartbeats 2000000 in
theorem nameR_any (s : ByteArray) (w : World) : Calls Try.prog 17 #[.string s] w fun e w' => e = .returned (.bool (nameF s.data.toList)) ∧ w' = w := by
  by_cases h0 : s.size = 0
  · have d0 : decide ((s.size : Int) < 1) = true := by simp; omega
    have HN : Hid (nameF s.data.toList = false) := Lib.hid (by
      have : s.data.toList = [] := List.length_eq_zero_iff.1 (by simpa using h0)
      rw [this]; rfl)
    go_enter Try.func17, Try.ntmps17
    go_wp2
    go_ret
    exact ⟨ret_bool (by rw [HN.out]), rfl⟩
  have d0 : decide ((s.size : Int) < 1) = false := by simp; omega
  have hp : 0 < s.size := by omega
  have HN := Lib.hid (name_at s hp)
  by_cases h24 : 24 < s.size
  · have HF : Hid (nameF s.data.toList = false) := Lib.hid (by rw [HN.out]; simp; omega)
    have d24 : decide (24 < (s.size : Int)) = true := by simp; omega
    go_enter Try.func17, Try.ntmps17
    go_wp2
    go_ret
    exact ⟨ret_bool (by rw [HF.out]), rfl⟩
  have d24 : decide (24 < (s.size : Int)) = false := by simp; omega
  have hlet := fun w => letterR_any s[0] w
  cases hl : isLet s[0]
  · have HF : Hid (nameF s.data.toList = false) := Lib.hid (by rw [HN.out, hl]; simp)
    rw [hl] at hlet
    go_enter Try.func17, Try.ntmps17
    go_wp2_with (go_at_call 28; refine (hlet _).mono ?_; rintro e w1 ⟨rfl, rfl⟩)
    go_ret
    exact ⟨ret_bool (by rw [HF.out]), rfl⟩
  rw [hl] at hlet
  have HE := Lib.hid (run_yes hp (in_let hl))
  have HF1 : Hid (runAt isIn s 0 = s.size → nameF s.data.toList = !resF s.data.toList) := Lib.hid (fun hr => by rw [HN.out, hl]; simp [hr]; omega)
  have HF2 : Hid (runAt isIn s 0 ≠ s.size → nameF s.data.toList = false) := Lib.hid (fun hr => by rw [HN.out]; simp [hr])
  have hres := fun w => resR_any s w
  clear HN hl
  go_enter Try.func17, Try.ntmps17
  go_wp2_with (go_at_call 28; refine (hlet _).mono ?_; rintro e w1 ⟨rfl, rfl⟩)
  go_loop [3] (fun t => ∃ k : Nat, 1 ≤ k ∧ k ≤ s.size ∧ t = .int .i64 k ∧ runAt isIn s 0 = runAt isIn s k) (fun t => s.size - (intOf t).toNat)
  case atStart => exact ⟨1, Nat.le_refl _, by omega, rfl, HE.out⟩
  case round =>
    clear HE hlet
    obtain ⟨k, h1, hk, rfl, hR⟩ := hrel
    have HR := Lib.hid hR
    clear hR
    by_cases hlt : k < s.size
    · have hc := fun w => inner_any s[k] w
      cases hp2 : isIn s[k]
      · have HE := Lib.hid (HR.out.trans (run_no hlt hp2))
        have HF3 := Lib.hid (HF2.out (by rw [HE.out]; omega))
        rw [hp2] at hc
        clear hp2
        go_wp2_with (go_at_call 29; refine (hc _).mono ?_; rintro e w1 ⟨rfl, rfl⟩)
        go_ret
        exact ⟨ret_bool (by rw [HF3.out]), rfl⟩
      · have HE := Lib.hid (HR.out.trans (run_yes hlt hp2))
        rw [hp2] at hc
        clear hp2
        go_wp2_with (go_at_call 29; refine (hc _).mono ?_; rintro e w1 ⟨rfl, rfl⟩)
        go_round
        case rel => exact ⟨k + 1, by omega, by omega, by go_num, HE.out⟩
        case measure => simp [intOf]; omega
    · have HE := Lib.hid (HR.out.trans (run_end (by omega)))
      have HF3 := Lib.hid (HF1.out (by rw [HE.out]; omega))
      go_wp2_with (go_at_call 15; refine (hres _).mono ?_; rintro e w1 ⟨rfl, rfl⟩)
      go_ret
      exact ⟨ret_bool (by rw [HF3.out]), rfl⟩
end Go.Proofs.Ytebhfcjkaoldmaa
