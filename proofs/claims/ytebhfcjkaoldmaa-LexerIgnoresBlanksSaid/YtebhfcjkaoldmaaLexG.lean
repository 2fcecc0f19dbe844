/- What the specification's blanks answers. -/
import Derived.Test.YtebhfcjkaoldmaaLexC
namespace Go.Proofs.Ytebhfcjkaoldmaa
open Go.RowKit

theorem gap_bl {s : ByteArray} {k : Nat} (h : k < s.size) (hb : isBl s[k] = true) : gapC false s k = gapC false s (k + 1) := by
  have h1 : nextC false s[k] = false := by
    unfold nextC
    simp [isBl] at hb
    rcases hb with ((e | e) | e) | e <;> rw [e] <;> rfl
  rw [gap_yes h (by simp [hb]), h1]
theorem gap_hash {s : ByteArray} {k : Nat} (h : k < s.size) (hb : (s[k] == 35) = true) : gapC false s k = gapC true s k := by
  have h1 : ∀ c, nextC c s[k] = true := fun c => by simp [nextC, hb]
  rw [gap_yes h (by simp [h1]), gap_yes h (by simp [h1]), h1, h1]
theorem gap_in {s : ByteArray} {k : Nat} (h : k < s.size) (hb : (s[k] != 10) = true) : gapC true s k = gapC true s (k + 1) := by
  have h1 : nextC true s[k] = true := by simp [nextC, hb]
  rw [gap_yes h (by simp [h1]), h1]
theorem gap_lf {s : ByteArray} {k : Nat} (h : k < s.size) (hb : (s[k] != 10) = false) : gapC true s k = gapC false s k := by
  have e : s[k] = 10 := by simpa using hb
  have h1 : ∀ c, nextC c s[k] = false := fun c => by rw [e]; simp [nextC]
  have h2 : isBl s[k] = true := by rw [e]; rfl
  rw [gap_yes h (by simp [h2]), gap_yes h (by simp [h2]), h1, h1]
theorem gap_stay {s : ByteArray} {k : Nat} (h : k < s.size) (h1 : isBl s[k] = false) (h2 : (s[k] == 35) = false) : gapC false s k = k := gap_no h (by simp [nextC, h1, h2])
theorem bl_of {b : UInt8} (h : (b == 32) = true ∨ (b == 9) = true ∨ (b == 10) = true ∨ (b == 13) = true) : isBl b = true := by
  simp [isBl]
  simp at h
  rcases h with h | h | h | h <;> simp [h]
theorem bl_not {b : UInt8} (h1 : (b == 32) = false) (h2 : (b == 9) = false) (h3 : (b == 10) = false) (h4 : (b == 13) = false) : isBl b = false := by simp [isBl, h1, h2, h3, h4]
theorem bl_hash {b : UInt8} (h1 : (b == 35) = true) : (b == 32) = false ∧ (b == 9) = false ∧ (b == 10) = false ∧ (b == 13) = false := by
  have e : b = 35 := by simpa using h1
  subst e
  exact ⟨rfl, rfl, rfl, rfl⟩
set_option maxHeartbeats 2000000 in
theorem blanks_any (s : ByteArray) (i : Nat) (w : World) (hs : s.size ≤ 1000000) (hi : i ≤ s.size) :
    Calls Try.prog 23 #[.string s, .int .i64 (i : Int)] w fun e w' => e = .returned (.int .i64 (gapAt s i : Nat)) ∧ w' = w := by
  have HG : Hid (gapAt s i = gapC false s i) := Lib.hid rfl
  go_enter Try.func23, Try.ntmps23
  go_wp2
  go_loopw [1] (fun t wr => ∃ k : Nat, k ≤ s.size ∧ t = .int .i64 k ∧ gapAt s i = gapC false s k ∧ wr = w) (fun t _ => s.size - (intOf t).toNat)
  case atStart => exact ⟨i, hi, rfl, HG.out, rfl⟩
  case round =>
    clear HG
    obtain ⟨k, hk, rfl, hR, rfl⟩ := hrel
    have HR := Lib.hid hR
    clear hR
    by_cases hlt : k < s.size
    · have h32 : ((s[k].toNat : Int) == 32) = (s[k] == 32) := byte_eq s[k] 32 (by decide)
      have h9 : ((s[k].toNat : Int) == 9) = (s[k] == 9) := byte_eq s[k] 9 (by decide)
      have h10 : ((s[k].toNat : Int) == 10) = (s[k] == 10) := byte_eq s[k] 10 (by decide)
      have h13 : ((s[k].toNat : Int) == 13) = (s[k] == 13) := byte_eq s[k] 13 (by decide)
      have h35 : ((s[k].toNat : Int) == 35) = (s[k] == 35) := byte_eq s[k] 35 (by decide)
      have HB : Hid (((s[k] == 32) = true ∨ (s[k] == 9) = true ∨ (s[k] == 10) = true ∨ (s[k] == 13) = true) → gapAt s i = gapC false s (k + 1)) := Lib.hid fun h => HR.out.trans (gap_bl hlt (bl_of h))
      have HS : Hid ((s[k] == 32) = false → (s[k] == 9) = false → (s[k] == 10) = false → (s[k] == 13) = false → (s[k] == 35) = false → gapAt s i = k) := Lib.hid fun h1 h2 h3 h4 h5 => HR.out.trans (gap_stay hlt (bl_not h1 h2 h3 h4) h5)
      have HH : Hid ((s[k] == 35) = true → gapAt s i = gapC true s k) := Lib.hid fun h1 => HR.out.trans (gap_hash hlt h1)
      have HN : Hid ((s[k] == 35) = true → (s[k] != 10) = true) := Lib.hid fun h1 => by simp only [bne, (bl_hash h1).2.2.1]; rfl
      generalize hp : (s[k] == 32) = p at h32 HB HS
      generalize hq : (s[k] == 9) = q at h9 HB HS
      generalize hr : (s[k] == 10) = r at h10 HB HS
      generalize ht : (s[k] == 13) = t at h13 HB HS
      generalize hu : (s[k] == 35) = u at h35 HS HH HN
      have Hu := Lib.hid hu
      clear hp hq hr ht hu
      cases p
      · cases q
        · cases r
          · cases t
            · cases u
              · have HE := Lib.hid (HS.out rfl rfl rfl rfl rfl)
                go_wp2
                go_ret
                exact ⟨ret_int (by rw [HE.out]), rfl⟩
              · have HE := Lib.hid (HH.out rfl)
                have HN2 := Lib.hid (HN.out rfl)
                clear HS HH HB
                go_wp2
                go_loopw [1] (fun t wo => ∃ j : Nat, k ≤ j ∧ j ≤ s.size ∧ t = .int .i64 j ∧ gapAt s i = gapC true s j ∧ wo = wr) (fun t _ => s.size - (intOf t).toNat)
                case atStart => exact ⟨k, Nat.le_refl _, hk, rfl, HE.out, rfl⟩
                case round =>
                  clear HE h32 h9 h10 h13 h35
                  obtain ⟨j, hkj, hj, rfl, hR2, rfl⟩ := hrel
                  have HR2 := Lib.hid hR2
                  clear hR2
                  by_cases hlt2 : j < s.size
                  · have h10 : ((s[j].toNat : Int) != 10) = (s[j] != 10) := congrArg not (byte_eq s[j] 10 (by decide))
                    cases hx : s[j] != 10
                    · have HE := Lib.hid (HR2.out.trans (gap_lf hlt2 hx))
                      rw [hx] at h10
                      have hjk : k < j := by
                        rcases Nat.lt_or_ge k j with h | h
                        · exact h
                        · obtain rfl : j = k := by omega
                          exact absurd HN2.out (by rw [hx]; simp)
                      clear hx
                      go_wp2
                      go_roundw
                      case rel => exact ⟨j, by omega, rfl, HE.out, by trivial⟩
                      case measure => simp [intOf]; omega
                    · have HE := Lib.hid (HR2.out.trans (gap_in hlt2 hx))
                      rw [hx] at h10
                      clear hx
                      go_wp2
                      go_roundw
                      case rel => exact ⟨j + 1, by omega, by omega, by go_num, HE.out, by trivial⟩
                      case measure => simp [intOf]; omega
                  · obtain rfl : j = s.size := by omega
                    have HE := Lib.hid (HR2.out.trans ((gap_end (c := true) (Nat.le_refl _)).trans (gap_end (c := false) (Nat.le_refl _)).symm))
                    go_wp2
                    go_roundw
                    case rel => exact ⟨s.size, Nat.le_refl _, rfl, HE.out, by trivial⟩
                    case measure => simp [intOf]; omega
            · have HE := Lib.hid (HB.out (by simp))
              go_wp2
              go_roundw
              case rel => exact ⟨k + 1, by omega, by go_num, HE.out, by trivial⟩
              case measure => simp [intOf]; omega
          · have HE := Lib.hid (HB.out (by simp))
            go_wp2
            go_roundw
            case rel => exact ⟨k + 1, by omega, by go_num, HE.out, by trivial⟩
            case measure => simp [intOf]; omega
        · have HE := Lib.hid (HB.out (by simp))
          go_wp2
          go_roundw
          case rel => exact ⟨k + 1, by omega, by go_num, HE.out, by trivial⟩
          case measure => simp [intOf]; omega
      · have HE := Lib.hid (HB.out (by simp))
        go_wp2
        go_roundw
        case rel => exact ⟨k + 1, by omega, by go_num, HE.out, by trivial⟩
        case measure => simp [intOf]; omega
    · have HE := Lib.hid (HR.out.trans (gap_end (by omega)))
      go_wp2
      go_ret
      exact ⟨ret_int (by rw [HE.out]), rfl⟩
end Go.Proofs.Ytebhfcjkaoldmaa
