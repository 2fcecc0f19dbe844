/- What behindSign and the specification's sign answer. -/
import Derived.Test.YtebhfcjkaoldmaaLexC
import Derived.Lib.Bytealg
namespace Go.Proofs.Ytebhfcjkaoldmaa
open Go.RowKit

def onesL : List UInt8 := [59, 58, 44, 40, 41, 46, 63, 60, 62, 43, 45, 42, 47, 37, 33]
theorem ones_all : ∀ n : Nat, n < 256 → decide (0 ≤ Lib.indexByte onesL (UInt8.ofNat n)) = isOne (UInt8.ofNat n) := by decide +kernel
theorem ones_index (b : UInt8) : decide (0 ≤ Lib.indexByte onesL b) = isOne b := by
  have h := ones_all b.toNat b.toNat_lt
  rwa [UInt8.ofNat_toNat] at h
theorem extract_list (s : ByteArray) (a b : Nat) : (s.extract a b).toList = (s.data.toList.drop a).take (b - a) := by
  rw [ByteArray.toList_eq, ByteArray.data_extract, Array.toList_extract]
set_option maxHeartbeats 1000000 in
theorem indexByteS_any (s : ByteArray) (c : Int) (w : World) :
    Calls Try.prog 39 #[.string s, .int .u8 c] w fun e w' => e = .returned (.int .i64 (Lib.indexByte s.data.toList c.toNat.toUInt8)) ∧ w' = w := by
  go_enter Try.func39, Try.ntmps39
  go_wp2
  rw [run_callFunc_extern Try.func40 (by kernel_rfl) (by kernel_rfl) (by kernel_rfl) (e := Extern.BytealgIndexByte.indexByte) (by kernel_rfl), Lib.run_indexByteString]
  simp only [Result.andThen]
  rw [Oper.upon_value]
  go_wp2
  go_ret
  exact ⟨rfl, rfl⟩
theorem indexByte_any (s : ByteArray) (c : Int) (w : World) :
    Calls Try.prog 38 #[.string s, .int .u8 c] w fun e w' => e = .returned (.int .i64 (Lib.indexByte s.data.toList c.toNat.toUInt8)) ∧ w' = w := by
  go_enter Try.func38, Try.ntmps38
  go_wp2_with (go_at_call 39; refine (indexByteS_any _ _ _).mono ?_; rintro e w' ⟨rfl, rfl⟩)
  go_ret
  exact ⟨rfl, rfl⟩
theorem single_any (b : UInt8) (w : World) :
    Calls Try.prog 38 #[.string ⟨#[59, 58, 44, 40, 41, 46, 63, 60, 62, 43, 45, 42, 47, 37, 33]⟩, .int .u8 (b.toNat : Int)] w fun e w' => (∃ z : Int, e = .returned (.int .i64 z) ∧ decide (0 ≤ z) = isOne b) ∧ w' = w := by
  refine (indexByte_any _ _ w).mono ?_
  rintro e w' ⟨rfl, rfl⟩
  refine ⟨⟨_, rfl, ?_⟩, rfl⟩
  have h : ((b.toNat : Int).toNat).toUInt8 = b := by simp
  rw [h]
  exact ones_index b
/-- the two bytes at the head, as far as there are two -/
theorem sign_two {l : Bytes} (h : twos.contains (l.take 2) = true) : signF l = 2 := by
  cases l with
  | nil => simp [twos] at h
  | cons x l => rw [sign_cons, if_pos h]
theorem sign_else {x : UInt8} {l : Bytes} (h : twos.contains ((x :: l).take 2) = false) : signF (x :: l) = if isOne x then 1 else 0 := by
  rw [sign_cons, if_neg (by rw [h]; simp)]
theorem twos_or (T : Bytes) : twos.contains T = (T == [46, 46] || (T == [45, 62] || (T == [58, 61] || (T == [38, 38] || (T == [124, 124] || (T == [61, 61] || (T == [33, 61] || (T == [60, 61] || T == [62, 61])))))))) := by
  simp only [twos, List.contains_cons, List.contains_nil, Bool.or_false]

set_option maxHeartbeats 2000000 in
theorem behindSign_1 (s : ByteArray) (i : Nat) (w : World) (hs : s.size ≤ 1000000) (hi : i < s.size) (h2 : i + 1 = s.size) :
    Calls Try.prog 34 #[.string s, .int .i64 (i : Int)] w fun e w' => e = .returned (.int .i64 ((i : Int) + signF (s.data.toList.drop i))) ∧ w' = w := by
  have hT : (s.extract i s.size).toList = (s.data.toList.drop i).take 2 := by rw [extract_list]; rw [List.take_of_length_le (by simp), List.take_of_length_le (by simp; omega)]
  have HF : Hid (twos.contains ((s.data.toList.drop i).take 2) = true → signF (s.data.toList.drop i) = 2) := Lib.hid sign_two
  have HN : Hid (twos.contains ((s.data.toList.drop i).take 2) = false → signF (s.data.toList.drop i) = if isOne s[i] then 1 else 0) := Lib.hid (by
    rw [drop_at s hi]; exact sign_else)
  have hsg := fun w => single_any s[i] w
  generalize (s.data.toList.drop i).take 2 = T at hT HF HN
  rw [twos_or] at HF HN
  generalize signF (s.data.toList.drop i) = R at *
  generalize hone : isOne s[i] = I at *
  clear hone
  generalize hc1 : (T == [46, 46]) = c1 at HF HN
  generalize hc2 : (T == [45, 62]) = c2 at HF HN
  generalize hc3 : (T == [58, 61]) = c3 at HF HN
  generalize hc4 : (T == [38, 38]) = c4 at HF HN
  generalize hc5 : (T == [124, 124]) = c5 at HF HN
  generalize hc6 : (T == [61, 61]) = c6 at HF HN
  generalize hc7 : (T == [33, 61]) = c7 at HF HN
  generalize hc8 : (T == [60, 61]) = c8 at HF HN
  generalize hc9 : (T == [62, 61]) = c9 at HF HN
  have hle : (i : Int) ≤ s.size := by omega
  cases c1
  · cases c2
    · cases c3
      · cases c4
        · cases c5
          · cases c6
            · cases c7
              · cases c8
                · cases c9
                  · have HE := Lib.hid (HN.out rfl)
                    clear HF HN
                    cases I
                    · go_enter Try.func34, Try.ntmps34
                      go_wp2_with (go_at_call 38; refine (hsg _).mono ?_; rintro e w1 ⟨⟨z, rfl, hz⟩, rfl⟩)
                      go_ret
                      exact ⟨ret_int (by rw [HE.out]; simp), rfl⟩
                    · go_enter Try.func34, Try.ntmps34
                      go_wp2_with (go_at_call 38; refine (hsg _).mono ?_; rintro e w1 ⟨⟨z, rfl, hz⟩, rfl⟩)
                      go_ret
                      exact ⟨ret_int (by rw [HE.out]; simp), rfl⟩
                  · have HE := Lib.hid (HF.out (by simp))
                    clear HF HN
                    go_enter Try.func34, Try.ntmps34
                    go_wp2
                    go_ret
                    exact ⟨ret_int (by rw [HE.out]; rfl), rfl⟩
                · have HE := Lib.hid (HF.out (by simp))
                  clear HF HN
                  go_enter Try.func34, Try.ntmps34
                  go_wp2
                  go_ret
                  exact ⟨ret_int (by rw [HE.out]; rfl), rfl⟩
              · have HE := Lib.hid (HF.out (by simp))
                clear HF HN
                go_enter Try.func34, Try.ntmps34
                go_wp2
                go_ret
                exact ⟨ret_int (by rw [HE.out]; rfl), rfl⟩
            · have HE := Lib.hid (HF.out (by simp))
              clear HF HN
              go_enter Try.func34, Try.ntmps34
              go_wp2
              go_ret
              exact ⟨ret_int (by rw [HE.out]; rfl), rfl⟩
          · have HE := Lib.hid (HF.out (by simp))
            clear HF HN
            go_enter Try.func34, Try.ntmps34
            go_wp2
            go_ret
            exact ⟨ret_int (by rw [HE.out]; rfl), rfl⟩
        · have HE := Lib.hid (HF.out (by simp))
          clear HF HN
          go_enter Try.func34, Try.ntmps34
          go_wp2
          go_ret
          exact ⟨ret_int (by rw [HE.out]; rfl), rfl⟩
      · have HE := Lib.hid (HF.out (by simp))
        clear HF HN
        go_enter Try.func34, Try.ntmps34
        go_wp2
        go_ret
        exact ⟨ret_int (by rw [HE.out]; rfl), rfl⟩
    · have HE := Lib.hid (HF.out (by simp))
      clear HF HN
      go_enter Try.func34, Try.ntmps34
      go_wp2
      go_ret
      exact ⟨ret_int (by rw [HE.out]; rfl), rfl⟩
  · have HE := Lib.hid (HF.out (by simp))
    clear HF HN
    go_enter Try.func34, Try.ntmps34
    go_wp2
    go_ret
    exact ⟨ret_int (by rw [HE.out]; rfl), rfl⟩
set_option maxHeartbeats 2000000 in
theorem behindSign_2 (s : ByteArray) (i : Nat) (w : World) (hs : s.size ≤ 1000000) (hi : i < s.size) (h2 : i + 2 ≤ s.size) :
    Calls Try.prog 34 #[.string s, .int .i64 (i : Int)] w fun e w' => e = .returned (.int .i64 ((i : Int) + signF (s.data.toList.drop i))) ∧ w' = w := by
  have hT : (s.extract i (i + 2)).toList = (s.data.toList.drop i).take 2 := by rw [extract_list]; congr 1; omega
  have HF : Hid (twos.contains ((s.data.toList.drop i).take 2) = true → signF (s.data.toList.drop i) = 2) := Lib.hid sign_two
  have HN : Hid (twos.contains ((s.data.toList.drop i).take 2) = false → signF (s.data.toList.drop i) = if isOne s[i] then 1 else 0) := Lib.hid (by
    rw [drop_at s hi]; exact sign_else)
  have hsg := fun w => single_any s[i] w
  generalize (s.data.toList.drop i).take 2 = T at hT HF HN
  rw [twos_or] at HF HN
  generalize signF (s.data.toList.drop i) = R at *
  generalize hone : isOne s[i] = I at *
  clear hone
  generalize hc1 : (T == [46, 46]) = c1 at HF HN
  generalize hc2 : (T == [45, 62]) = c2 at HF HN
  generalize hc3 : (T == [58, 61]) = c3 at HF HN
  generalize hc4 : (T == [38, 38]) = c4 at HF HN
  generalize hc5 : (T == [124, 124]) = c5 at HF HN
  generalize hc6 : (T == [61, 61]) = c6 at HF HN
  generalize hc7 : (T == [33, 61]) = c7 at HF HN
  generalize hc8 : (T == [60, 61]) = c8 at HF HN
  generalize hc9 : (T == [62, 61]) = c9 at HF HN
  have hle : (i : Int) ≤ s.size := by omega
  cases c1
  · cases c2
    · cases c3
      · cases c4
        · cases c5
          · cases c6
            · cases c7
              · cases c8
                · cases c9
                  · have HE := Lib.hid (HN.out rfl)
                    clear HF HN
                    cases I
                    · go_enter Try.func34, Try.ntmps34
                      go_wp2_with (go_at_call 38; refine (hsg _).mono ?_; rintro e w1 ⟨⟨z, rfl, hz⟩, rfl⟩)
                      go_ret
                      exact ⟨ret_int (by rw [HE.out]; simp), rfl⟩
                    · go_enter Try.func34, Try.ntmps34
                      go_wp2_with (go_at_call 38; refine (hsg _).mono ?_; rintro e w1 ⟨⟨z, rfl, hz⟩, rfl⟩)
                      go_ret
                      exact ⟨ret_int (by rw [HE.out]; simp), rfl⟩
                  · have HE := Lib.hid (HF.out (by simp))
                    clear HF HN
                    go_enter Try.func34, Try.ntmps34
                    go_wp2
                    go_ret
                    exact ⟨ret_int (by rw [HE.out]; rfl), rfl⟩
                · have HE := Lib.hid (HF.out (by simp))
                  clear HF HN
                  go_enter Try.func34, Try.ntmps34
                  go_wp2
                  go_ret
                  exact ⟨ret_int (by rw [HE.out]; rfl), rfl⟩
              · have HE := Lib.hid (HF.out (by simp))
                clear HF HN
                go_enter Try.func34, Try.ntmps34
                go_wp2
                go_ret
                exact ⟨ret_int (by rw [HE.out]; rfl), rfl⟩
            · have HE := Lib.hid (HF.out (by simp))
              clear HF HN
              go_enter Try.func34, Try.ntmps34
              go_wp2
              go_ret
              exact ⟨ret_int (by rw [HE.out]; rfl), rfl⟩
          · have HE := Lib.hid (HF.out (by simp))
            clear HF HN
            go_enter Try.func34, Try.ntmps34
            go_wp2
            go_ret
            exact ⟨ret_int (by rw [HE.out]; rfl), rfl⟩
        · have HE := Lib.hid (HF.out (by simp))
          clear HF HN
          go_enter Try.func34, Try.ntmps34
          go_wp2
          go_ret
          exact ⟨ret_int (by rw [HE.out]; rfl), rfl⟩
      · have HE := Lib.hid (HF.out (by simp))
        clear HF HN
        go_enter Try.func34, Try.ntmps34
        go_wp2
        go_ret
        exact ⟨ret_int (by rw [HE.out]; rfl), rfl⟩
    · have HE := Lib.hid (HF.out (by simp))
      clear HF HN
      go_enter Try.func34, Try.ntmps34
      go_wp2
      go_ret
      exact ⟨ret_int (by rw [HE.out]; rfl), rfl⟩
  · have HE := Lib.hid (HF.out (by simp))
    clear HF HN
    go_enter Try.func34, Try.ntmps34
    go_wp2
    go_ret
    exact ⟨ret_int (by rw [HE.out]; rfl), rfl⟩
theorem behindSign_any (s : ByteArray) (i : Nat) (w : World) (hs : s.size ≤ 1000000) (hi : i < s.size) :
    Calls Try.prog 34 #[.string s, .int .i64 (i : Int)] w fun e w' => e = .returned (.int .i64 ((i : Int) + signF (s.data.toList.drop i))) ∧ w' = w := by
  by_cases h : i + 2 ≤ s.size
  · exact behindSign_2 s i w hs hi h
  · exact behindSign_1 s i w hs hi (by omega)
end Go.Proofs.Ytebhfcjkaoldmaa
