/- What value of the program and number of the specification answer. -/
import Derived.Test.YtdbahiepihkagaaGreatDoorLexB
import Derived.Lib.Bytealg
import Derived.Laws.RangeAny
namespace Go.Proofs.YtdbahiepihkagaaGreatDoor
open Go.RowKit

def gapAt (s : ByteArray) (i : Nat) : Nat := i + gapF false (s.data.toList.drop i)
def runAt (p : UInt8 → Bool) (s : ByteArray) (i : Nat) : Nat := i + runF p (s.data.toList.drop i)
theorem drop_at (s : ByteArray) {k : Nat} (h : k < s.size) : s.data.toList.drop k = s[k] :: s.data.toList.drop (k + 1) := by
  rw [List.drop_eq_getElem_cons (by simpa using h)]; rfl
theorem drop_end (s : ByteArray) {k : Nat} (h : s.size ≤ k) : s.data.toList.drop k = [] := List.drop_eq_nil_of_le (by simpa using h)
theorem gapAt_le (s : ByteArray) {i : Nat} (h : i ≤ s.size) : i ≤ gapAt s i ∧ gapAt s i ≤ s.size := by
  have := gap_le false (s.data.toList.drop i)
  unfold gapAt
  simp at this
  omega
theorem runAt_le (p : UInt8 → Bool) (s : ByteArray) {i : Nat} (h : i ≤ s.size) : i ≤ runAt p s i ∧ runAt p s i ≤ s.size := by
  have := run_le p (s.data.toList.drop i)
  unfold runAt
  simp at this
  omega
theorem run_yes {p : UInt8 → Bool} {s : ByteArray} {k : Nat} (h : k < s.size) (hp : p s[k] = true) : runAt p s k = runAt p s (k + 1) := by
  unfold runAt
  rw [drop_at s h, runF, if_pos hp]
  omega
theorem run_no {p : UInt8 → Bool} {s : ByteArray} {k : Nat} (h : k < s.size) (hp : p s[k] = false) : runAt p s k = k := by
  unfold runAt
  rw [drop_at s h, runF, if_neg (by simp [hp])]
  omega
theorem run_end {p : UInt8 → Bool} {s : ByteArray} {k : Nat} (h : s.size ≤ k) : runAt p s k = k := by
  unfold runAt
  rw [drop_end s h]
  rfl

set_option maxHeartbeats 1000000 in
theorem behind_in (s : ByteArray) (i : Nat) (w : World) (hs : s.size ≤ 1000000) (hi : i ≤ s.size) :
    Calls Tryz.prog 124 #[.string s, .int .i64 (i : Int), .func (Fn.func 125) #[] #[]] w fun e w' => e = .returned (.int .i64 (runAt isIn s i : Nat)) ∧ w' = w := by
  go_enter Tryz.func124, Tryz.ntmps124
  go_wp2
  go_loop [1] (fun t => ∃ k : Nat, k ≤ s.size ∧ t = .int .i64 k ∧ runAt isIn s i = runAt isIn s k) (fun t => s.size - (intOf t).toNat)
  case atStart => exact ⟨i, hi, rfl, rfl⟩
  case round =>
    obtain ⟨k, hk, rfl, hR⟩ := hrel
    have HR := Lib.hid hR
    clear hR
    by_cases hlt : k < s.size
    · have hc := fun w => inWord_any s[k] w
      cases hp : isIn s[k]
      · have HE := Lib.hid (HR.out.trans (run_no hlt hp))
        rw [hp] at hc
        clear hp
        go_wp2_with (go_at_call 125; refine (hc _).mono ?_; rintro e w1 ⟨rfl, rfl⟩)
        go_ret
        exact ⟨ret_int (by rw [HE.out]), rfl⟩
      · have HE := Lib.hid (HR.out.trans (run_yes hlt hp))
        rw [hp] at hc
        clear hp
        go_wp2_with (go_at_call 125; refine (hc _).mono ?_; rintro e w1 ⟨rfl, rfl⟩)
        go_round
        case rel => exact ⟨k + 1, by omega, by go_num, HE.out⟩
        case measure => simp [intOf]; omega
    · have HE := Lib.hid (HR.out.trans (run_end (by omega)))
      go_wp2
      go_ret
      exact ⟨ret_int (by rw [HE.out]), rfl⟩
set_option maxHeartbeats 1000000 in
theorem behind_dg (s : ByteArray) (i : Nat) (w : World) (hs : s.size ≤ 1000000) (hi : i ≤ s.size) :
    Calls Tryz.prog 124 #[.string s, .int .i64 (i : Int), .func (Fn.func 152) #[] #[]] w fun e w' => e = .returned (.int .i64 (runAt isDgt s i : Nat)) ∧ w' = w := by
  go_enter Tryz.func124, Tryz.ntmps124
  go_wp2
  go_loop [1] (fun t => ∃ k : Nat, k ≤ s.size ∧ t = .int .i64 k ∧ runAt isDgt s i = runAt isDgt s k) (fun t => s.size - (intOf t).toNat)
  case atStart => exact ⟨i, hi, rfl, rfl⟩
  case round =>
    obtain ⟨k, hk, rfl, hR⟩ := hrel
    have HR := Lib.hid hR
    clear hR
    by_cases hlt : k < s.size
    · have hc := fun w => digit_any s[k] w
      cases hp : isDgt s[k]
      · have HE := Lib.hid (HR.out.trans (run_no hlt hp))
        rw [hp] at hc
        clear hp
        go_wp2_with (go_at_call 152; refine (hc _).mono ?_; rintro e w1 ⟨rfl, rfl⟩)
        go_ret
        exact ⟨ret_int (by rw [HE.out]), rfl⟩
      · have HE := Lib.hid (HR.out.trans (run_yes hlt hp))
        rw [hp] at hc
        clear hp
        go_wp2_with (go_at_call 152; refine (hc _).mono ?_; rintro e w1 ⟨rfl, rfl⟩)
        go_round
        case rel => exact ⟨k + 1, by omega, by go_num, HE.out⟩
        case measure => simp [intOf]; omega
    · have HE := Lib.hid (HR.out.trans (run_end (by omega)))
      go_wp2
      go_ret
      exact ⟨ret_int (by rw [HE.out]), rfl⟩

/-! ### Gaps -/
def nextC (c : Bool) (b : UInt8) : Bool := b == 35 || (c && b != 10)
def gapC (c : Bool) (s : ByteArray) (i : Nat) : Nat := i + gapF c (s.data.toList.drop i)
theorem gap_yes {c : Bool} {s : ByteArray} {k : Nat} (h : k < s.size) (hp : (nextC c s[k] || isBl s[k]) = true) : gapC c s k = gapC (nextC c s[k]) s (k + 1) := by
  unfold gapC
  rw [drop_at s h, gapF]
  unfold nextC at hp ⊢
  rw [if_pos hp]
  omega
theorem gap_no {c : Bool} {s : ByteArray} {k : Nat} (h : k < s.size) (hp : (nextC c s[k] || isBl s[k]) = false) : gapC c s k = k := by
  unfold gapC
  rw [drop_at s h, gapF]
  unfold nextC at hp
  rw [if_neg (by simp [hp])]
  omega
theorem gap_end {c : Bool} {s : ByteArray} {k : Nat} (h : s.size ≤ k) : gapC c s k = k := by
  unfold gapC
  rw [drop_end s h]
  rfl
theorem fitsGap_any (b : UInt8) (c : Bool) (cb : Nat) (w : World) (hc : w.cell? ⟨cb, 0, none⟩ = some (.bool c)) (hf : w.frozen? ⟨cb, 0, none⟩ = false) :
    Calls Tryz.prog 150 #[.int .u8 (b.toNat : Int), .pointer (some ⟨cb, 0, none⟩)] w fun e w' => e = .returned (.bool (nextC c b || isBl b)) ∧ w' = w.setCell ⟨cb, 0, none⟩ (.bool (nextC c b)) := by
  unfold nextC
  have hbl := fun w => blank_any b w
  have h35 : ((b.toNat : Int) == 35) = (b == 35) := byte_eq b 35 (by decide)
  have h10 : ((b.toNat : Int) != 10) = (b != 10) := congrArg not (byte_eq b 10 (by decide))
  generalize (b == 35) = p at *
  generalize (b != 10) = q at *
  generalize isBl b = r at *
  have hcell : ∀ v, (w.setCell ⟨cb, 0, none⟩ v).cell? ⟨cb, 0, none⟩ = some v := fun v => set_same hc
  cases p
  all_goals cases c
  all_goals cases q
  all_goals
    go_enter Tryz.func150, Tryz.ntmps150
    go_wp2_with (go_at_call 151; refine (hbl _).mono ?_; rintro e w1 ⟨rfl, rfl⟩)
    go_ret
    exact ⟨rfl, rfl⟩
set_option maxHeartbeats 1000000 in
theorem behind_gap (s : ByteArray) (i cb : Nat) (w : World) (hs : s.size ≤ 1000000) (hi : i ≤ s.size) (hc : w.cell? ⟨cb, 0, none⟩ = some (.bool false)) (hf : w.frozen? ⟨cb, 0, none⟩ = false) :
    Calls Tryz.prog 124 #[.string s, .int .i64 (i : Int), .func (Fn.func 150) #[] #[.pointer (some ⟨cb, 0, none⟩)]] w fun e w' => e = .returned (.int .i64 (gapAt s i : Nat)) ∧ Below cb w w' := by
  have hcb : cb < w.heap.size := cell_lt hc
  have HG : Hid (gapAt s i = gapC false s i) := Lib.hid rfl
  go_enter Tryz.func124, Tryz.ntmps124
  go_wp2
  go_loopw [1] (fun t wr => ∃ (k : Nat) (c : Bool), k ≤ s.size ∧ t = .int .i64 k ∧ gapAt s i = gapC c s k ∧ wr.cell? ⟨cb, 0, none⟩ = some (.bool c) ∧ wr.frozen? ⟨cb, 0, none⟩ = false ∧ Below cb w wr) (fun t _ => s.size - (intOf t).toNat)
  case atStart => exact ⟨i, false, hi, rfl, HG.out, hc, hf, Below.refl _ _⟩
  case round =>
    clear hc hf HG
    obtain ⟨k, c, hk, rfl, hR, hc, hf, hbel⟩ := hrel
    have HR := Lib.hid hR
    have Hc := Lib.hid hc
    have Hf := Lib.hid hf
    clear hR
    by_cases hlt : k < s.size
    · have hcall := fitsGap_any s[k] c cb wr hc hf
      cases hp : nextC c s[k] || isBl s[k]
      · have HE := Lib.hid (HR.out.trans (gap_no hlt hp))
        rw [hp] at hcall
        generalize nextC c s[k] = c2 at *
        clear hp hc hf
        go_wp2_with (go_at_call 150; refine hcall.mono ?_; rintro e w1 ⟨rfl, rfl⟩)
        go_ret
        exact ⟨ret_int (by rw [HE.out]), hbel.setCell (Nat.le_refl _) _⟩
      · have HE := Lib.hid (HR.out.trans (gap_yes hlt hp))
        rw [hp] at hcall
        generalize nextC c s[k] = c2 at *
        clear hp hc hf
        go_wp2_with (go_at_call 150; refine hcall.mono ?_; rintro e w1 ⟨rfl, rfl⟩)
        go_roundw
        case rel => exact ⟨k + 1, c2, by omega, by go_num, HE.out, set_same Hc.out, by rw [World.frozen?_setCell]; exact Hf.out, hbel.setCell (Nat.le_refl _) _⟩
        case measure => simp [intOf]; omega
    · have HE := Lib.hid (HR.out.trans (gap_end (by omega)))
      go_wp2
      go_ret
      exact ⟨ret_int (by rw [HE.out]), hbel⟩
theorem behindGap_any (s : ByteArray) (i : Nat) (w : World) (hs : s.size ≤ 1000000) (hi : i ≤ s.size) :
    Calls Tryz.prog 98 #[.string s, .int .i64 (i : Int)] w fun e w' => e = .returned (.int .i64 (gapAt s i : Nat)) ∧ Below w.heap.size w w' := by
  go_enter Tryz.func98, Tryz.ntmps98
  go_wp2_with (go_at_call 124; refine (behind_gap s i w.heap.size _ hs hi (by simp [World.cell?_alloc_new]) (by simp)).mono ?_; rintro e w1 ⟨rfl, hb⟩)
  go_ret
  exact ⟨rfl, ((Below.refl _ _).alloc (Nat.le_refl _) _).trans hb⟩

end Go.Proofs.YtdbahiepihkagaaGreatDoor
namespace Go.Proofs.YtdbahiepihkagaaGreatDoor
set_option maxRecDepth 100000
open Go.RowKit

def onesL : List UInt8 := [59, 58, 44, 40, 41, 46, 63, 60, 62, 43, 45, 42, 47, 37, 33]
theorem ones_all : ∀ n : Nat, n < 256 → decide (0 ≤ Lib.indexByte onesL (UInt8.ofNat n)) = isOne (UInt8.ofNat n) := by decide +kernel
theorem ones_index (b : UInt8) : decide (0 ≤ Lib.indexByte onesL b) = isOne b := by
  have h := ones_all b.toNat b.toNat_lt
  rwa [UInt8.ofNat_toNat] at h
theorem extract_list (s : ByteArray) (a b : Nat) : (s.extract a b).toList = (s.data.toList.drop a).take (b - a) := by
  rw [ByteArray.toList_eq, ByteArray.data_extract, Array.toList_extract]
set_option maxHeartbeats 1000000 in
theorem indexByteS_any (s : ByteArray) (c : Int) (w : World) :
    Calls Tryz.prog 200 #[.string s, .int .u8 c] w fun e w' => e = .returned (.int .i64 (Lib.indexByte s.data.toList c.toNat.toUInt8)) ∧ w' = w := by
  go_enter Tryz.func200, Tryz.ntmps200
  go_wp2
  rw [run_callFunc_extern Tryz.func211 (by kernel_rfl) (by kernel_rfl) (by kernel_rfl) (e := Extern.BytealgIndexByte.indexByte) (by kernel_rfl), Lib.run_indexByteString]
  simp only [Result.andThen]
  rw [Oper.upon_value]
  go_wp2
  go_ret
  exact ⟨rfl, rfl⟩
theorem indexByte_any (s : ByteArray) (c : Int) (w : World) :
    Calls Tryz.prog 181 #[.string s, .int .u8 c] w fun e w' => e = .returned (.int .i64 (Lib.indexByte s.data.toList c.toNat.toUInt8)) ∧ w' = w := by
  go_enter Tryz.func181, Tryz.ntmps181
  go_wp2_with (go_at_call 200; refine (indexByteS_any _ _ _).mono ?_; rintro e w' ⟨rfl, rfl⟩)
  go_ret
  exact ⟨rfl, rfl⟩
theorem single_any (b : UInt8) (w : World) :
    Calls Tryz.prog 181 #[.string ⟨#[59, 58, 44, 40, 41, 46, 63, 60, 62, 43, 45, 42, 47, 37, 33]⟩, .int .u8 (b.toNat : Int)] w fun e w' => (∃ z : Int, e = .returned (.int .i64 z) ∧ decide (0 ≤ z) = isOne b) ∧ w' = w := by
  refine (indexByte_any _ _ w).mono ?_
  rintro e w' ⟨rfl, rfl⟩
  refine ⟨⟨_, rfl, ?_⟩, rfl⟩
  have h : ((b.toNat : Int).toNat).toUInt8 = b := by simp
  rw [h]
  exact ones_index b
/-- the two bytes at the head, as far as there are two -/
theorem sign_two {l : Bytes} (h : twos.contains (l.take 2) = true) : signF l = 2 := by
  cases l with
  | nil => simp [twos] at h
  | cons x l => rw [sign_cons, if_pos h]
theorem sign_else {x : UInt8} {l : Bytes} (h : twos.contains ((x :: l).take 2) = false) : signF (x :: l) = if isOne x then 1 else 0 := by
  rw [sign_cons, if_neg (by rw [h]; simp)]
theorem twos_or (T : Bytes) : twos.contains T = (T == [46, 46] || (T == [45, 62] || (T == [58, 61] || (T == [38, 38] || (T == [124, 124] || (T == [61, 61] || (T == [33, 61] || (T == [60, 61] || T == [62, 61])))))))) := by
  simp only [twos, List.contains_cons, List.contains_nil, Bool.or_false]

set_option maxHeartbeats 2000000 in
theorem behindSign_1 (s : ByteArray) (i : Nat) (w : World) (hs : s.size ≤ 1000000) (hi : i < s.size) (h2 : i + 1 = s.size) :
    Calls Tryz.prog 154 #[.string s, .int .i64 (i : Int)] w fun e w' => e = .returned (.int .i64 ((i : Int) + signF (s.data.toList.drop i))) ∧ w' = w := by
  have hT : (s.extract i s.size).toList = (s.data.toList.drop i).take 2 := by rw [extract_list]; rw [List.take_of_length_le (by simp), List.take_of_length_le (by simp; omega)]
  have HF : Hid (twos.contains ((s.data.toList.drop i).take 2) = true → signF (s.data.toList.drop i) = 2) := Lib.hid sign_two
  have HN : Hid (twos.contains ((s.data.toList.drop i).take 2) = false → signF (s.data.toList.drop i) = if isOne s[i] then 1 else 0) := Lib.hid (by
    rw [drop_at s hi]; exact sign_else)
  have hsg := fun w => single_any s[i] w
  generalize (s.data.toList.drop i).take 2 = T at hT HF HN
  rw [twos_or] at HF HN
  generalize signF (s.data.toList.drop i) = R at *
  generalize hone : isOne s[i] = I at *
  clear hone
  generalize hc1 : (T == [46, 46]) = c1 at HF HN
  generalize hc2 : (T == [45, 62]) = c2 at HF HN
  generalize hc3 : (T == [58, 61]) = c3 at HF HN
  generalize hc4 : (T == [38, 38]) = c4 at HF HN
  generalize hc5 : (T == [124, 124]) = c5 at HF HN
  generalize hc6 : (T == [61, 61]) = c6 at HF HN
  generalize hc7 : (T == [33, 61]) = c7 at HF HN
  generalize hc8 : (T == [60, 61]) = c8 at HF HN
  generalize hc9 : (T == [62, 61]) = c9 at HF HN
  have hle : (i : Int) ≤ s.size := by omega
  cases c1
  · cases c2
    · cases c3
      · cases c4
        · cases c5
          · cases c6
            · cases c7
              · cases c8
                · cases c9
                  · have HE := Lib.hid (HN.out rfl)
                    clear HF HN
                    cases I
                    · go_enter Tryz.func154, Tryz.ntmps154
                      go_wp2_with (go_at_call 181; refine (hsg _).mono ?_; rintro e w1 ⟨⟨z, rfl, hz⟩, rfl⟩)
                      go_ret
                      exact ⟨ret_int (by rw [HE.out]; simp), rfl⟩
                    · go_enter Tryz.func154, Tryz.ntmps154
                      go_wp2_with (go_at_call 181; refine (hsg _).mono ?_; rintro e w1 ⟨⟨z, rfl, hz⟩, rfl⟩)
                      go_ret
                      exact ⟨ret_int (by rw [HE.out]; simp), rfl⟩
                  · have HE := Lib.hid (HF.out (by simp))
                    clear HF HN
                    go_enter Tryz.func154, Tryz.ntmps154
                    go_wp2
                    go_ret
                    exact ⟨ret_int (by rw [HE.out]; rfl), rfl⟩
                · have HE := Lib.hid (HF.out (by simp))
                  clear HF HN
                  go_enter Tryz.func154, Tryz.ntmps154
                  go_wp2
                  go_ret
                  exact ⟨ret_int (by rw [HE.out]; rfl), rfl⟩
              · have HE := Lib.hid (HF.out (by simp))
                clear HF HN
                go_enter Tryz.func154, Tryz.ntmps154
                go_wp2
                go_ret
                exact ⟨ret_int (by rw [HE.out]; rfl), rfl⟩
            · have HE := Lib.hid (HF.out (by simp))
              clear HF HN
              go_enter Tryz.func154, Tryz.ntmps154
              go_wp2
              go_ret
              exact ⟨ret_int (by rw [HE.out]; rfl), rfl⟩
          · have HE := Lib.hid (HF.out (by simp))
            clear HF HN
            go_enter Tryz.func154, Tryz.ntmps154
            go_wp2
            go_ret
            exact ⟨ret_int (by rw [HE.out]; rfl), rfl⟩
        · have HE := Lib.hid (HF.out (by simp))
          clear HF HN
          go_enter Tryz.func154, Tryz.ntmps154
          go_wp2
          go_ret
          exact ⟨ret_int (by rw [HE.out]; rfl), rfl⟩
      · have HE := Lib.hid (HF.out (by simp))
        clear HF HN
        go_enter Tryz.func154, Tryz.ntmps154
        go_wp2
        go_ret
        exact ⟨ret_int (by rw [HE.out]; rfl), rfl⟩
    · have HE := Lib.hid (HF.out (by simp))
      clear HF HN
      go_enter Tryz.func154, Tryz.ntmps154
      go_wp2
      go_ret
      exact ⟨ret_int (by rw [HE.out]; rfl), rfl⟩
  · have HE := Lib.hid (HF.out (by simp))
    clear HF HN
    go_enter Tryz.func154, Tryz.ntmps154
    go_wp2
    go_ret
    exact ⟨ret_int (by rw [HE.out]; rfl), rfl⟩
set_option maxHeartbeats 2000000 in
theorem behindSign_2 (s : ByteArray) (i : Nat) (w : World) (hs : s.size ≤ 1000000) (hi : i < s.size) (h2 : i + 2 ≤ s.size) :
    Calls Tryz.prog 154 #[.string s, .int .i64 (i : Int)] w fun e w' => e = .returned (.int .i64 ((i : Int) + signF (s.data.toList.drop i))) ∧ w' = w := by
  have hT : (s.extract i (i + 2)).toList = (s.data.toList.drop i).take 2 := by rw [extract_list]; congr 1; omega
  have HF : Hid (twos.contains ((s.data.toList.drop i).take 2) = true → signF (s.data.toList.drop i) = 2) := Lib.hid sign_two
  have HN : Hid (twos.contains ((s.data.toList.drop i).take 2) = false → signF (s.data.toList.drop i) = if isOne s[i] then 1 else 0) := Lib.hid (by
    rw [drop_at s hi]; exact sign_else)
  have hsg := fun w => single_any s[i] w
  generalize (s.data.toList.drop i).take 2 = T at hT HF HN
  rw [twos_or] at HF HN
  generalize signF (s.data.toList.drop i) = R at *
  generalize hone : isOne s[i] = I at *
  clear hone
  generalize hc1 : (T == [46, 46]) = c1 at HF HN
  generalize hc2 : (T == [45, 62]) = c2 at HF HN
  generalize hc3 : (T == [58, 61]) = c3 at HF HN
  generalize hc4 : (T == [38, 38]) = c4 at HF HN
  generalize hc5 : (T == [124, 124]) = c5 at HF HN
  generalize hc6 : (T == [61, 61]) = c6 at HF HN
  generalize hc7 : (T == [33, 61]) = c7 at HF HN
  generalize hc8 : (T == [60, 61]) = c8 at HF HN
  generalize hc9 : (T == [62, 61]) = c9 at HF HN
  have hle : (i : Int) ≤ s.size := by omega
  cases c1
  · cases c2
    · cases c3
      · cases c4
        · cases c5
          · cases c6
            · cases c7
              · cases c8
                · cases c9
                  · have HE := Lib.hid (HN.out rfl)
                    clear HF HN
                    cases I
                    · go_enter Tryz.func154, Tryz.ntmps154
                      go_wp2_with (go_at_call 181; refine (hsg _).mono ?_; rintro e w1 ⟨⟨z, rfl, hz⟩, rfl⟩)
                      go_ret
                      exact ⟨ret_int (by rw [HE.out]; simp), rfl⟩
                    · go_enter Tryz.func154, Tryz.ntmps154
                      go_wp2_with (go_at_call 181; refine (hsg _).mono ?_; rintro e w1 ⟨⟨z, rfl, hz⟩, rfl⟩)
                      go_ret
                      exact ⟨ret_int (by rw [HE.out]; simp), rfl⟩
                  · have HE := Lib.hid (HF.out (by simp))
                    clear HF HN
                    go_enter Tryz.func154, Tryz.ntmps154
                    go_wp2
                    go_ret
                    exact ⟨ret_int (by rw [HE.out]; rfl), rfl⟩
                · have HE := Lib.hid (HF.out (by simp))
                  clear HF HN
                  go_enter Tryz.func154, Tryz.ntmps154
                  go_wp2
                  go_ret
                  exact ⟨ret_int (by rw [HE.out]; rfl), rfl⟩
              · have HE := Lib.hid (HF.out (by simp))
                clear HF HN
                go_enter Tryz.func154, Tryz.ntmps154
                go_wp2
                go_ret
                exact ⟨ret_int (by rw [HE.out]; rfl), rfl⟩
            · have HE := Lib.hid (HF.out (by simp))
              clear HF HN
              go_enter Tryz.func154, Tryz.ntmps154
              go_wp2
              go_ret
              exact ⟨ret_int (by rw [HE.out]; rfl), rfl⟩
          · have HE := Lib.hid (HF.out (by simp))
            clear HF HN
            go_enter Tryz.func154, Tryz.ntmps154
            go_wp2
            go_ret
            exact ⟨ret_int (by rw [HE.out]; rfl), rfl⟩
        · have HE := Lib.hid (HF.out (by simp))
          clear HF HN
          go_enter Tryz.func154, Tryz.ntmps154
          go_wp2
          go_ret
          exact ⟨ret_int (by rw [HE.out]; rfl), rfl⟩
      · have HE := Lib.hid (HF.out (by simp))
        clear HF HN
        go_enter Tryz.func154, Tryz.ntmps154
        go_wp2
        go_ret
        exact ⟨ret_int (by rw [HE.out]; rfl), rfl⟩
    · have HE := Lib.hid (HF.out (by simp))
      clear HF HN
      go_enter Tryz.func154, Tryz.ntmps154
      go_wp2
      go_ret
      exact ⟨ret_int (by rw [HE.out]; rfl), rfl⟩
  · have HE := Lib.hid (HF.out (by simp))
    clear HF HN
    go_enter Tryz.func154, Tryz.ntmps154
    go_wp2
    go_ret
    exact ⟨ret_int (by rw [HE.out]; rfl), rfl⟩
theorem behindSign_any (s : ByteArray) (i : Nat) (w : World) (hs : s.size ≤ 1000000) (hi : i < s.size) :
    Calls Tryz.prog 154 #[.string s, .int .i64 (i : Int)] w fun e w' => e = .returned (.int .i64 ((i : Int) + signF (s.data.toList.drop i))) ∧ w' = w := by
  by_cases h : i + 2 ≤ s.size
  · exact behindSign_2 s i w hs hi h
  · exact behindSign_1 s i w hs hi (by omega)
end Go.Proofs.YtdbahiepihkagaaGreatDoor
namespace Go.Proofs.YtdbahiepihkagaaGreatDoor
open Go.RowKit

theorem vtake_snoc (s : ByteArray) (k : Nat) (h : k < s.size) : s.data.toList.take (k + 1) = s.data.toList.take k ++ [s[k]] := by
  rw [List.take_succ_eq_append_getElem (by simpa using h)]; rfl
theorem vmem_at (s : ByteArray) (k : Nat) (h : k < s.size) : s[k] ∈ s.data.toList := by
  have : s[k] = s.data.toList[k]'(by simpa using h) := rfl
  rw [this]
  exact List.getElem_mem _
theorem vall (s : ByteArray) {k : Nat} (h : s.size ≤ k) : s.data.toList.take k = s.data.toList := List.take_of_length_le (by simpa using h)
theorem dgt_iff {b : UInt8} (h : isDgt b = true) : 48 ≤ b.toNat ∧ b.toNat ≤ 57 := by simpa [isDgt] using h
def capF (l : Bytes) : Nat := min (valF l) 1073741825
theorem cap_snoc (l : Bytes) (b : UInt8) : capF (l ++ [b]) = min (10 * capF l + (b.toNat - 48)) 1073741825 := by
  unfold capF
  rw [val_snoc]
  omega

set_option maxHeartbeats 1000000 in
theorem value_any (s : ByteArray) (w : World) (hd : ∀ b ∈ s.data.toList, isDgt b = true) :
    Calls Tryz.prog 153 #[.string s] w fun e w' => e = .returned (.int .i64 (capF s.data.toList : Nat)) ∧ Below w.heap.size w w' := by
  have Hd := Lib.hid hd
  clear hd
  go_enter Tryz.func153, Tryz.ntmps153
  go_wp2
  go_loopw [3] (fun f wr => ∃ k : Nat, k ≤ s.size ∧ wr = w.iter s k ∧ f = .int .i64 (capF (s.data.toList.take k) : Nat)) (fun _ wr => s.size - wr.iterPos w.heap.size)
  case atStart => exact ⟨0, Nat.zero_le _, rfl, rfl⟩
  case round =>
    obtain ⟨k, hk, rfl, rfl⟩ := hrel
    by_cases hlt : k < s.size
    · obtain ⟨hb1, hb2⟩ := dgt_iff (Hd.out _ (vmem_at s k hlt))
      have HS : Hid (capF (s.data.toList.take (k + 1)) = min (10 * capF (s.data.toList.take k) + (s[k].toNat - 48)) 1073741825) := Lib.hid (by rw [vtake_snoc s k hlt, cap_snoc])
      have hV : capF (s.data.toList.take k) ≤ 1073741825 := Nat.min_le_right _ _
      generalize capF (s.data.toList.take k) = V at *
      have hasc : s[k].toNat < 128 := by omega
      have hnx : ∀ ty, (Instr.next (.pointer (some ⟨w.heap.size, 0, none⟩)) true ty).run Tryz.prog (w.iter s k) = _ := fun ty => run_next_ascii w s k ty hlt hasc
      by_cases hx : 1073741825 < 10 * V + (s[k].toNat - 48)
      · have HE : Hid (capF (s.data.toList.take (k + 1)) = 1073741825) := Lib.hid (by rw [HS.out]; omega)
        have hx1 : 1073741825 < 10 * (V : Int) + ((s[k].toNat : Int) - 48) := by omega
        go_wp2
        go_roundw
        case rel => exact ⟨k + 1, by omega, rfl, by rw [HE.out]; rfl⟩
        case measure => simp; omega
      · have HE : Hid (capF (s.data.toList.take (k + 1)) = 10 * V + (s[k].toNat - 48)) := Lib.hid (by rw [HS.out]; omega)
        have hx1 : ¬ 1073741825 < 10 * (V : Int) + ((s[k].toNat : Int) - 48) := by omega
        go_wp2
        go_roundw
        case rel => exact ⟨k + 1, by omega, rfl, by rw [HE.out]; go_num⟩
        case measure => simp; omega
    · have hall := vall s (k := k) (by omega)
      have hnx : ∀ ty, (Instr.next (.pointer (some ⟨w.heap.size, 0, none⟩)) true ty).run Tryz.prog (w.iter s k) = _ := fun ty => run_next_end w s k ty hlt
      rw [hall]
      clear hall
      go_wp2
      go_ret
      exact ⟨rfl, (Below.refl _ _).alloc (Nat.le_refl _) _⟩

/-! ### Numbers of the specification -/
def badF (l : Bytes) : Bool := (l.head? == some 48 && decide (1 < l.length)) || decide (1073741824 < valF l)
theorem val_lower : ∀ (n : Nat) (l : Bytes), l.length = n + 1 → (∀ b ∈ l, isDgt b = true) → l.head? ≠ some 48 → 10 ^ n ≤ valF l
  | 0, l, hl, hd, hh => by
    match l, hl with
    | [b], _ =>
      have h1 := dgt_iff (hd b (by simp))
      have h2 : b.toNat ≠ 48 := fun e => hh (by simp; exact UInt8.toNat_inj.1 e)
      simp [valF]
      omega
  | n + 1, l, hl, hd, hh => by
    obtain ⟨m, b, rfl⟩ : ∃ m b, l = m ++ [b] := by
      have hne : l ≠ [] := by intro e; rw [e] at hl; simp at hl
      exact ⟨l.dropLast, l.getLast hne, (List.dropLast_concat_getLast hne).symm⟩
    have hm : m.length = n + 1 := by simpa using hl
    have hmn : m ≠ [] := by intro e; rw [e] at hm; simp at hm
    have h1 : (m ++ [b]).head? = m.head? := by cases m with
      | nil => exact absurd rfl hmn
      | cons a t => rfl
    rw [h1] at hh
    have ih := val_lower n m hm (fun x hx => hd x (by simp [hx])) hh
    rw [val_snoc, Nat.pow_succ]
    omega
theorem val_bound : ∀ (k : Nat) (l : Bytes), l.length ≤ k → (∀ b ∈ l, isDgt b = true) → valF l < 10 ^ k := by
  intro k
  induction k with
  | zero =>
    intro l hl _
    have : l = [] := List.length_eq_zero_iff.1 (by omega)
    rw [this]
    simp [valF]
  | succ k ih =>
    intro l hl hd
    by_cases hne : l = []
    · rw [hne]; simp [valF]; exact Nat.pow_pos (by decide)
    · rw [← List.dropLast_concat_getLast hne, val_snoc]
      have h5 := ih l.dropLast (by simp; omega) (fun b hb => hd b ((List.dropLast_prefix l).subset hb))
      have h6 := dgt_iff (hd _ (List.getLast_mem hne))
      rw [Nat.pow_succ]
      omega
theorem bad_zero {l : Bytes} (h1 : 1 < l.length) (h2 : l.head? = some 48) : badF l = true := by simp [badF, h1, h2]
theorem bad_long {l : Bytes} (h1 : 10 < l.length) (hd : ∀ b ∈ l, isDgt b = true) : badF l = true := by
  by_cases h : l.head? = some 48
  · exact bad_zero (by omega) h
  · have h2 := val_lower (l.length - 1) l (by omega) hd h
    have h3 : 10 ^ 10 ≤ 10 ^ (l.length - 1) := Nat.pow_le_pow_right (by decide) (by omega)
    simp [badF]
    right
    have : (10 : Nat) ^ 10 = 10000000000 := by decide
    omega
theorem bad_not {l : Bytes} (h1 : 1 < l.length → l.head? ≠ some 48) : badF l = decide (1073741824 < valF l) := by
  unfold badF
  by_cases h : 1 < l.length
  · have := h1 h
    simp [this]
  · simp [h]
theorem ret_ib {a c : Int} {b d : Bool} (h : a = c ∧ b = d) : Ending.returned (.tuple #[.int .i64 a, .bool b]) = .returned (.tuple #[.int .i64 c, .bool d]) := by rw [h.1, h.2]

set_option maxHeartbeats 2000000 in
theorem number_any (s : ByteArray) (w : World) (hs : s.size ≤ 1000000) (hd : ∀ b ∈ s.data.toList, isDgt b = true) (h0 : 0 < s.size) :
    Calls Tryz.prog 115 #[.string s] w fun e w' => (∃ z : Int, e = .returned (.tuple #[.int .i64 z, .bool (!badF s.data.toList)]) ∧ (badF s.data.toList = false → z = valF s.data.toList)) ∧ w' = w := by
  have hlen : s.data.toList.length = s.size := by simp
  have hhead : s.data.toList.head? = some s[0] := by
    rw [List.head?_eq_getElem?]
    exact List.getElem?_eq_getElem (by simpa using h0)
  have Hlen := Lib.hid hlen
  have Hhead := Lib.hid hhead
  have Hd := Lib.hid hd
  clear hlen hhead hd
  have main : (1 < s.size → s[0] ≠ 48) → s.size ≤ 10 → Calls Tryz.prog 115 #[.string s] w fun e w' => (∃ z : Int, e = .returned (.tuple #[.int .i64 z, .bool (!badF s.data.toList)]) ∧ (badF s.data.toList = false → z = valF s.data.toList)) ∧ w' = w := by
    intro hz h10
    have HB : Hid (badF s.data.toList = decide (1073741824 < valF s.data.toList)) := Lib.hid (bad_not fun h => by
      rw [Hhead.out]
      rw [Hlen.out] at h
      simpa using hz h)
    have hz2 : 1 < s.size → (((s[0].toNat : Nat) : Int) == 48) = false := fun h => by
      have h5 := hz h
      have : s[0].toNat ≠ 48 := fun e => h5 (UInt8.toNat_inj.1 e)
      simp; omega
    clear hz
    have d2 : decide (10 < (s.size : Int)) = false := by simp; omega
    by_cases h3 : 1 < s.size
    all_goals
      first | (have d3 : decide (1 < (s.size : Int)) = true := by simp; omega) | (have d3 : decide (1 < (s.size : Int)) = false := by simp; omega)
      try (have d4 := hz2 h3)
      clear hz2
      go_enter Tryz.func115, Tryz.ntmps115
      go_wp2
      go_loop [4, 5] (fun f t => ∃ k : Nat, k ≤ s.size ∧ t = .int .i64 k ∧ f = .int .i64 (valF (s.data.toList.take k) : Nat)) (fun _ t => s.size - (intOf t).toNat)
      case atStart => exact ⟨0, Nat.zero_le _, rfl, rfl⟩
      case round =>
        obtain ⟨k, hk, rfl, rfl⟩ := hrel
        by_cases hlt : k < s.size
        · obtain ⟨hb1, hb2⟩ := dgt_iff (Hd.out _ (vmem_at s k hlt))
          have hv := val_bound 10 (s.data.toList.take k) (by have := List.length_take_le k s.data.toList; omega) (fun b hb => Hd.out b (List.mem_of_mem_take hb))
          have HS : Hid (valF (s.data.toList.take (k + 1)) = 10 * valF (s.data.toList.take k) + (s[k].toNat - 48)) := Lib.hid (by rw [vtake_snoc s k hlt, val_snoc])
          generalize valF (s.data.toList.take k) = V at *
          go_wp2
          go_round
          case rel => exact ⟨k + 1, by omega, by go_num, by rw [HS.out]; go_num⟩
          case measure => simp [intOf]; omega
        · have hall := vall s (k := k) (by omega)
          rw [hall] at *
          clear hall
          have hv := val_bound 10 s.data.toList (by rw [Hlen.out]; omega) Hd.out
          by_cases hle : valF s.data.toList ≤ 1073741824
          · have HB2 : Hid (badF s.data.toList = false) := Lib.hid (by rw [HB.out]; simp; omega)
            go_wp2
            go_ret2
            exact ⟨⟨_, ret_ib ⟨rfl, by rw [HB2.out]; simp; omega⟩, fun _ => rfl⟩, rfl⟩
          · have HB2 : Hid (badF s.data.toList = true) := Lib.hid (by rw [HB.out]; simp; omega)
            go_wp2
            go_ret2
            exact ⟨⟨_, ret_ib ⟨rfl, by rw [HB2.out]; simp; omega⟩, fun _ => rfl⟩, rfl⟩
  by_cases h3 : 1 < s.size ∧ s[0] = 48
  · have HB := Lib.hid (bad_zero (l := s.data.toList) (by rw [Hlen.out]; exact h3.1) (by rw [Hhead.out, h3.2]))
    have d3 : decide (1 < (s.size : Int)) = true := by simp; omega
    have d4 : (((s[0].toNat : Nat) : Int) == 48) = true := by rw [h3.2]; rfl
    clear main
    go_enter Tryz.func115, Tryz.ntmps115
    go_wp2
    go_ret2
    exact ⟨⟨_, ret_ib ⟨rfl, by rw [HB.out]; rfl⟩, fun h => by rw [HB.out] at h; cases h⟩, rfl⟩
  · by_cases h4 : 10 < s.size
    · have HB := Lib.hid (bad_long (l := s.data.toList) (by rw [Hlen.out]; exact h4) Hd.out)
      have d2 : decide (10 < (s.size : Int)) = true := by simp; omega
      have d3 : decide (1 < (s.size : Int)) = true := by simp; omega
      have d4 : (((s[0].toNat : Nat) : Int) == 48) = false := by
        have h5 : s[0] ≠ 48 := fun e => h3 ⟨by omega, e⟩
        have : s[0].toNat ≠ 48 := fun e => h5 (UInt8.toNat_inj.1 e)
        simp; omega
      clear main h3
      go_enter Tryz.func115, Tryz.ntmps115
      go_wp2
      go_ret2
      exact ⟨⟨_, ret_ib ⟨rfl, by rw [HB.out]; rfl⟩, fun h => by rw [HB.out] at h; cases h⟩, rfl⟩
    · exact main (fun h e => h3 ⟨h, e⟩) (by omega)
end Go.Proofs.YtdbahiepihkagaaGreatDoor
