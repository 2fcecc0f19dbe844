/- What behind, behindGap and the specification's blanks answer: the places behind gaps and runs. -/
import Derived.Test.YtebhfcjkaoldmaaLexB
namespace Go.Proofs.Ytebhfcjkaoldmaa
open Go.RowKit

def gapAt (s : ByteArray) (i : Nat) : Nat := i + gapF false (s.data.toList.drop i)
def runAt (p : UInt8 → Bool) (s : ByteArray) (i : Nat) : Nat := i + runF p (s.data.toList.drop i)
theorem drop_at (s : ByteArray) {k : Nat} (h : k < s.size) : s.data.toList.drop k = s[k] :: s.data.toList.drop (k + 1) := by
  rw [List.drop_eq_getElem_cons (by simpa using h)]; rfl
theorem drop_end (s : ByteArray) {k : Nat} (h : s.size ≤ k) : s.data.toList.drop k = [] := List.drop_eq_nil_of_le (by simpa using h)
theorem gapAt_le (s : ByteArray) {i : Nat} (h : i ≤ s.size) : i ≤ gapAt s i ∧ gapAt s i ≤ s.size := by
  have := gap_le false (s.data.toList.drop i)
  unfold gapAt
  simp at this
  omega
theorem runAt_le (p : UInt8 → Bool) (s : ByteArray) {i : Nat} (h : i ≤ s.size) : i ≤ runAt p s i ∧ runAt p s i ≤ s.size := by
  have := run_le p (s.data.toList.drop i)
  unfold runAt
  simp at this
  omega
theorem run_yes {p : UInt8 → Bool} {s : ByteArray} {k : Nat} (h : k < s.size) (hp : p s[k] = true) : runAt p s k = runAt p s (k + 1) := by
  unfold runAt
  rw [drop_at s h, runF, if_pos hp]
  omega
theorem run_no {p : UInt8 → Bool} {s : ByteArray} {k : Nat} (h : k < s.size) (hp : p s[k] = false) : runAt p s k = k := by
  unfold runAt
  rw [drop_at s h, runF, if_neg (by simp [hp])]
  omega
theorem run_end {p : UInt8 → Bool} {s : ByteArray} {k : Nat} (h : s.size ≤ k) : runAt p s k = k := by
  unfold runAt
  rw [drop_end s h]
  rfl

set_option maxHeartbeats 1000000 in
theorem behind_in (s : ByteArray) (i : Nat) (w : World) (hs : s.size ≤ 1000000) (hi : i ≤ s.size) :
    Calls Try.prog 26 #[.string s, .int .i64 (i : Int), .func (Fn.func 27) #[] #[]] w fun e w' => e = .returned (.int .i64 (runAt isIn s i : Nat)) ∧ w' = w := by
  go_enter Try.func26, Try.ntmps26
  go_wp2
  go_loop [1] (fun t => ∃ k : Nat, k ≤ s.size ∧ t = .int .i64 k ∧ runAt isIn s i = runAt isIn s k) (fun t => s.size - (intOf t).toNat)
  case atStart => exact ⟨i, hi, rfl, rfl⟩
  case round =>
    obtain ⟨k, hk, rfl, hR⟩ := hrel
    have HR := Lib.hid hR
    clear hR
    by_cases hlt : k < s.size
    · have hc := fun w => inWord_any s[k] w
      cases hp : isIn s[k]
      · have HE := Lib.hid (HR.out.trans (run_no hlt hp))
        rw [hp] at hc
        clear hp
        go_wp2_with (go_at_call 27; refine (hc _).mono ?_; rintro e w1 ⟨rfl, rfl⟩)
        go_ret
        exact ⟨ret_int (by rw [HE.out]), rfl⟩
      · have HE := Lib.hid (HR.out.trans (run_yes hlt hp))
        rw [hp] at hc
        clear hp
        go_wp2_with (go_at_call 27; refine (hc _).mono ?_; rintro e w1 ⟨rfl, rfl⟩)
        go_round
        case rel => exact ⟨k + 1, by omega, by go_num, HE.out⟩
        case measure => simp [intOf]; omega
    · have HE := Lib.hid (HR.out.trans (run_end (by omega)))
      go_wp2
      go_ret
      exact ⟨ret_int (by rw [HE.out]), rfl⟩
set_option maxHeartbeats 1000000 in
theorem behind_dg (s : ByteArray) (i : Nat) (w : World) (hs : s.size ≤ 1000000) (hi : i ≤ s.size) :
    Calls Try.prog 26 #[.string s, .int .i64 (i : Int), .func (Fn.func 32) #[] #[]] w fun e w' => e = .returned (.int .i64 (runAt isDgt s i : Nat)) ∧ w' = w := by
  go_enter Try.func26, Try.ntmps26
  go_wp2
  go_loop [1] (fun t => ∃ k : Nat, k ≤ s.size ∧ t = .int .i64 k ∧ runAt isDgt s i = runAt isDgt s k) (fun t => s.size - (intOf t).toNat)
  case atStart => exact ⟨i, hi, rfl, rfl⟩
  case round =>
    obtain ⟨k, hk, rfl, hR⟩ := hrel
    have HR := Lib.hid hR
    clear hR
    by_cases hlt : k < s.size
    · have hc := fun w => digit_any s[k] w
      cases hp : isDgt s[k]
      · have HE := Lib.hid (HR.out.trans (run_no hlt hp))
        rw [hp] at hc
        clear hp
        go_wp2_with (go_at_call 32; refine (hc _).mono ?_; rintro e w1 ⟨rfl, rfl⟩)
        go_ret
        exact ⟨ret_int (by rw [HE.out]), rfl⟩
      · have HE := Lib.hid (HR.out.trans (run_yes hlt hp))
        rw [hp] at hc
        clear hp
        go_wp2_with (go_at_call 32; refine (hc _).mono ?_; rintro e w1 ⟨rfl, rfl⟩)
        go_round
        case rel => exact ⟨k + 1, by omega, by go_num, HE.out⟩
        case measure => simp [intOf]; omega
    · have HE := Lib.hid (HR.out.trans (run_end (by omega)))
      go_wp2
      go_ret
      exact ⟨ret_int (by rw [HE.out]), rfl⟩

/-! ### Gaps -/
def nextC (c : Bool) (b : UInt8) : Bool := b == 35 || (c && b != 10)
def gapC (c : Bool) (s : ByteArray) (i : Nat) : Nat := i + gapF c (s.data.toList.drop i)
theorem gap_yes {c : Bool} {s : ByteArray} {k : Nat} (h : k < s.size) (hp : (nextC c s[k] || isBl s[k]) = true) : gapC c s k = gapC (nextC c s[k]) s (k + 1) := by
  unfold gapC
  rw [drop_at s h, gapF]
  unfold nextC at hp ⊢
  rw [if_pos hp]
  omega
theorem gap_no {c : Bool} {s : ByteArray} {k : Nat} (h : k < s.size) (hp : (nextC c s[k] || isBl s[k]) = false) : gapC c s k = k := by
  unfold gapC
  rw [drop_at s h, gapF]
  unfold nextC at hp
  rw [if_neg (by simp [hp])]
  omega
theorem gap_end {c : Bool} {s : ByteArray} {k : Nat} (h : s.size ≤ k) : gapC c s k = k := by
  unfold gapC
  rw [drop_end s h]
  rfl
theorem fitsGap_any (b : UInt8) (c : Bool) (cb : Nat) (w : World) (hc : w.cell? ⟨cb, 0, none⟩ = some (.bool c)) (hf : w.frozen? ⟨cb, 0, none⟩ = false) :
    Calls Try.prog 30 #[.int .u8 (b.toNat : Int), .pointer (some ⟨cb, 0, none⟩)] w fun e w' => e = .returned (.bool (nextC c b || isBl b)) ∧ w' = w.setCell ⟨cb, 0, none⟩ (.bool (nextC c b)) := by
  unfold nextC
  have hbl := fun w => blank_any b w
  have h35 : ((b.toNat : Int) == 35) = (b == 35) := byte_eq b 35 (by decide)
  have h10 : ((b.toNat : Int) != 10) = (b != 10) := congrArg not (byte_eq b 10 (by decide))
  generalize (b == 35) = p at *
  generalize (b != 10) = q at *
  generalize isBl b = r at *
  have hcell : ∀ v, (w.setCell ⟨cb, 0, none⟩ v).cell? ⟨cb, 0, none⟩ = some v := fun v => set_same hc
  cases p
  all_goals cases c
  all_goals cases q
  all_goals
    go_enter Try.func30, Try.ntmps30
    go_wp2_with (go_at_call 31; refine (hbl _).mono ?_; rintro e w1 ⟨rfl, rfl⟩)
    go_ret
    exact ⟨rfl, rfl⟩
set_option maxHeartbeats 1000000 in
theorem behind_gap (s : ByteArray) (i cb : Nat) (w : World) (hs : s.size ≤ 1000000) (hi : i ≤ s.size) (hc : w.cell? ⟨cb, 0, none⟩ = some (.bool false)) (hf : w.frozen? ⟨cb, 0, none⟩ = false) :
    Calls Try.prog 26 #[.string s, .int .i64 (i : Int), .func (Fn.func 30) #[] #[.pointer (some ⟨cb, 0, none⟩)]] w fun e w' => e = .returned (.int .i64 (gapAt s i : Nat)) ∧ Below cb w w' := by
  have hcb : cb < w.heap.size := cell_lt hc
  have HG : Hid (gapAt s i = gapC false s i) := Lib.hid rfl
  go_enter Try.func26, Try.ntmps26
  go_wp2
  go_loopw [1] (fun t wr => ∃ (k : Nat) (c : Bool), k ≤ s.size ∧ t = .int .i64 k ∧ gapAt s i = gapC c s k ∧ wr.cell? ⟨cb, 0, none⟩ = some (.bool c) ∧ wr.frozen? ⟨cb, 0, none⟩ = false ∧ Below cb w wr) (fun t _ => s.size - (intOf t).toNat)
  case atStart => exact ⟨i, false, hi, rfl, HG.out, hc, hf, Below.refl _ _⟩
  case round =>
    clear hc hf HG
    obtain ⟨k, c, hk, rfl, hR, hc, hf, hbel⟩ := hrel
    have HR := Lib.hid hR
    have Hc := Lib.hid hc
    have Hf := Lib.hid hf
    clear hR
    by_cases hlt : k < s.size
    · have hcall := fitsGap_any s[k] c cb wr hc hf
      cases hp : nextC c s[k] || isBl s[k]
      · have HE := Lib.hid (HR.out.trans (gap_no hlt hp))
        rw [hp] at hcall
        generalize nextC c s[k] = c2 at *
        clear hp hc hf
        go_wp2_with (go_at_call 30; refine hcall.mono ?_; rintro e w1 ⟨rfl, rfl⟩)
        go_ret
        exact ⟨ret_int (by rw [HE.out]), hbel.setCell (Nat.le_refl _) _⟩
      · have HE := Lib.hid (HR.out.trans (gap_yes hlt hp))
        rw [hp] at hcall
        generalize nextC c s[k] = c2 at *
        clear hp hc hf
        go_wp2_with (go_at_call 30; refine hcall.mono ?_; rintro e w1 ⟨rfl, rfl⟩)
        go_roundw
        case rel => exact ⟨k + 1, c2, by omega, by go_num, HE.out, set_same Hc.out, by rw [World.frozen?_setCell]; exact Hf.out, hbel.setCell (Nat.le_refl _) _⟩
        case measure => simp [intOf]; omega
    · have HE := Lib.hid (HR.out.trans (gap_end (by omega)))
      go_wp2
      go_ret
      exact ⟨ret_int (by rw [HE.out]), hbel⟩
theorem behindGap_any (s : ByteArray) (i : Nat) (w : World) (hs : s.size ≤ 1000000) (hi : i ≤ s.size) :
    Calls Try.prog 21 #[.string s, .int .i64 (i : Int)] w fun e w' => e = .returned (.int .i64 (gapAt s i : Nat)) ∧ Below w.heap.size w w' := by
  go_enter Try.func21, Try.ntmps21
  go_wp2_with (go_at_call 26; refine (behind_gap s i w.heap.size _ hs hi (by simp [World.cell?_alloc_new]) (by simp)).mono ?_; rintro e w1 ⟨rfl, hb⟩)
  go_ret
  exact ⟨rfl, ((Below.refl _ _).alloc (Nat.le_refl _) _).trans hb⟩

end Go.Proofs.Ytebhfcjkaoldmaa
