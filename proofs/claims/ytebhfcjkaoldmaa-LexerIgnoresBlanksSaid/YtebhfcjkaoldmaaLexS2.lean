/- What the specification's sign answers. -/
import Derived.Test.YtebhfcjkaoldmaaLexS
namespace Go.Proofs.Ytebhfcjkaoldmaa
open Go.RowKit

set_option maxHeartbeats 4000000 in
theorem signR_1 (s : ByteArray) (i : Nat) (w : World) (hs : s.size ≤ 1000000) (hi : i < s.size) (h2 : i + 1 = s.size) :
    Calls Try.prog 37 #[.string s, .int .i64 (i : Int)] w fun e w' => e = .returned (.int .i64 ((signF (s.data.toList.drop i) : Nat) : Int)) ∧ w' = w := by
  have HN : Hid (signF (s.data.toList.drop i) = if isOne s[i] then 1 else 0) := Lib.hid (by
    rw [drop_at s hi, drop_end s (by omega)]; exact sign_else two_one)
  have g1 : ((s[i].toNat : Int) == 59) = (s[i] == 59) := byte_eq s[i] 59 (by decide)
  have g2 : ((s[i].toNat : Int) == 58) = (s[i] == 58) := byte_eq s[i] 58 (by decide)
  have g3 : ((s[i].toNat : Int) == 44) = (s[i] == 44) := byte_eq s[i] 44 (by decide)
  have g4 : ((s[i].toNat : Int) == 40) = (s[i] == 40) := byte_eq s[i] 40 (by decide)
  have g5 : ((s[i].toNat : Int) == 41) = (s[i] == 41) := byte_eq s[i] 41 (by decide)
  have g6 : ((s[i].toNat : Int) == 46) = (s[i] == 46) := byte_eq s[i] 46 (by decide)
  have g7 : ((s[i].toNat : Int) == 63) = (s[i] == 63) := byte_eq s[i] 63 (by decide)
  have g8 : ((s[i].toNat : Int) == 60) = (s[i] == 60) := byte_eq s[i] 60 (by decide)
  have g9 : ((s[i].toNat : Int) == 62) = (s[i] == 62) := byte_eq s[i] 62 (by decide)
  have g10 : ((s[i].toNat : Int) == 43) = (s[i] == 43) := byte_eq s[i] 43 (by decide)
  have g11 : ((s[i].toNat : Int) == 45) = (s[i] == 45) := byte_eq s[i] 45 (by decide)
  have g12 : ((s[i].toNat : Int) == 42) = (s[i] == 42) := byte_eq s[i] 42 (by decide)
  have g13 : ((s[i].toNat : Int) == 47) = (s[i] == 47) := byte_eq s[i] 47 (by decide)
  have g14 : ((s[i].toNat : Int) == 37) = (s[i] == 37) := byte_eq s[i] 37 (by decide)
  have g15 : ((s[i].toNat : Int) == 33) = (s[i] == 33) := byte_eq s[i] 33 (by decide)
  generalize signF (s.data.toList.drop i) = R at *
  unfold isOne at HN
  generalize (s[i] == 59) = d1 at *
  generalize (s[i] == 58) = d2 at *
  generalize (s[i] == 44) = d3 at *
  generalize (s[i] == 40) = d4 at *
  generalize (s[i] == 41) = d5 at *
  generalize (s[i] == 46) = d6 at *
  generalize (s[i] == 63) = d7 at *
  generalize (s[i] == 60) = d8 at *
  generalize (s[i] == 62) = d9 at *
  generalize (s[i] == 43) = d10 at *
  generalize (s[i] == 45) = d11 at *
  generalize (s[i] == 42) = d12 at *
  generalize (s[i] == 47) = d13 at *
  generalize (s[i] == 37) = d14 at *
  generalize (s[i] == 33) = d15 at *
  cases d1
  · cases d2
    · cases d3
      · cases d4
        · cases d5
          · cases d6
            · cases d7
              · cases d8
                · cases d9
                  · cases d10
                    · cases d11
                      · cases d12
                        · cases d13
                          · cases d14
                            · cases d15
                              · have HE := Lib.hid (HN.out)
                                clear HN
                                go_enter Try.func37, Try.ntmps37
                                go_wp2
                                go_ret
                                exact ⟨ret_int (by rw [HE.out]; rfl), rfl⟩
                              · have HE := Lib.hid (HN.out)
                                clear HN
                                go_enter Try.func37, Try.ntmps37
                                go_wp2
                                go_ret
                                exact ⟨ret_int (by rw [HE.out]; rfl), rfl⟩
                            · have HE := Lib.hid (HN.out)
                              clear HN
                              go_enter Try.func37, Try.ntmps37
                              go_wp2
                              go_ret
                              exact ⟨ret_int (by rw [HE.out]; rfl), rfl⟩
                          · have HE := Lib.hid (HN.out)
                            clear HN
                            go_enter Try.func37, Try.ntmps37
                            go_wp2
                            go_ret
                            exact ⟨ret_int (by rw [HE.out]; rfl), rfl⟩
                        · have HE := Lib.hid (HN.out)
                          clear HN
                          go_enter Try.func37, Try.ntmps37
                          go_wp2
                          go_ret
                          exact ⟨ret_int (by rw [HE.out]; rfl), rfl⟩
                      · have HE := Lib.hid (HN.out)
                        clear HN
                        go_enter Try.func37, Try.ntmps37
                        go_wp2
                        go_ret
                        exact ⟨ret_int (by rw [HE.out]; rfl), rfl⟩
                    · have HE := Lib.hid (HN.out)
                      clear HN
                      go_enter Try.func37, Try.ntmps37
                      go_wp2
                      go_ret
                      exact ⟨ret_int (by rw [HE.out]; rfl), rfl⟩
                  · have HE := Lib.hid (HN.out)
                    clear HN
                    go_enter Try.func37, Try.ntmps37
                    go_wp2
                    go_ret
                    exact ⟨ret_int (by rw [HE.out]; rfl), rfl⟩
                · have HE := Lib.hid (HN.out)
                  clear HN
                  go_enter Try.func37, Try.ntmps37
                  go_wp2
                  go_ret
                  exact ⟨ret_int (by rw [HE.out]; rfl), rfl⟩
              · have HE := Lib.hid (HN.out)
                clear HN
                go_enter Try.func37, Try.ntmps37
                go_wp2
                go_ret
                exact ⟨ret_int (by rw [HE.out]; rfl), rfl⟩
            · have HE := Lib.hid (HN.out)
              clear HN
              go_enter Try.func37, Try.ntmps37
              go_wp2
              go_ret
              exact ⟨ret_int (by rw [HE.out]; rfl), rfl⟩
          · have HE := Lib.hid (HN.out)
            clear HN
            go_enter Try.func37, Try.ntmps37
            go_wp2
            go_ret
            exact ⟨ret_int (by rw [HE.out]; rfl), rfl⟩
        · have HE := Lib.hid (HN.out)
          clear HN
          go_enter Try.func37, Try.ntmps37
          go_wp2
          go_ret
          exact ⟨ret_int (by rw [HE.out]; rfl), rfl⟩
      · have HE := Lib.hid (HN.out)
        clear HN
        go_enter Try.func37, Try.ntmps37
        go_wp2
        go_ret
        exact ⟨ret_int (by rw [HE.out]; rfl), rfl⟩
    · have HE := Lib.hid (HN.out)
      clear HN
      go_enter Try.func37, Try.ntmps37
      go_wp2
      go_ret
      exact ⟨ret_int (by rw [HE.out]; rfl), rfl⟩
  · have HE := Lib.hid (HN.out)
    clear HN
    go_enter Try.func37, Try.ntmps37
    go_wp2
    go_ret
    exact ⟨ret_int (by rw [HE.out]; rfl), rfl⟩
set_option maxHeartbeats 4000000 in
theorem signR_2 (s : ByteArray) (i : Nat) (w : World) (hs : s.size ≤ 1000000) (hi : i < s.size) (h2 : i + 2 ≤ s.size) :
    Calls Try.prog 37 #[.string s, .int .i64 (i : Int)] w fun e w' => e = .returned (.int .i64 ((signF (s.data.toList.drop i) : Nat) : Int)) ∧ w' = w := by
  have hT : (s.extract i (i + 2)).toList = (s.data.toList.drop i).take 2 := by rw [extract_list]; congr 1; omega
  have HF : Hid (twos.contains ((s.data.toList.drop i).take 2) = true → signF (s.data.toList.drop i) = 2) := Lib.hid sign_two
  have HN : Hid (twos.contains ((s.data.toList.drop i).take 2) = false → signF (s.data.toList.drop i) = if isOne s[i] then 1 else 0) := Lib.hid (by
    rw [drop_at s hi]; exact sign_else)
  have g1 : ((s[i].toNat : Int) == 59) = (s[i] == 59) := byte_eq s[i] 59 (by decide)
  have g2 : ((s[i].toNat : Int) == 58) = (s[i] == 58) := byte_eq s[i] 58 (by decide)
  have g3 : ((s[i].toNat : Int) == 44) = (s[i] == 44) := byte_eq s[i] 44 (by decide)
  have g4 : ((s[i].toNat : Int) == 40) = (s[i] == 40) := byte_eq s[i] 40 (by decide)
  have g5 : ((s[i].toNat : Int) == 41) = (s[i] == 41) := byte_eq s[i] 41 (by decide)
  have g6 : ((s[i].toNat : Int) == 46) = (s[i] == 46) := byte_eq s[i] 46 (by decide)
  have g7 : ((s[i].toNat : Int) == 63) = (s[i] == 63) := byte_eq s[i] 63 (by decide)
  have g8 : ((s[i].toNat : Int) == 60) = (s[i] == 60) := byte_eq s[i] 60 (by decide)
  have g9 : ((s[i].toNat : Int) == 62) = (s[i] == 62) := byte_eq s[i] 62 (by decide)
  have g10 : ((s[i].toNat : Int) == 43) = (s[i] == 43) := byte_eq s[i] 43 (by decide)
  have g11 : ((s[i].toNat : Int) == 45) = (s[i] == 45) := byte_eq s[i] 45 (by decide)
  have g12 : ((s[i].toNat : Int) == 42) = (s[i] == 42) := byte_eq s[i] 42 (by decide)
  have g13 : ((s[i].toNat : Int) == 47) = (s[i] == 47) := byte_eq s[i] 47 (by decide)
  have g14 : ((s[i].toNat : Int) == 37) = (s[i] == 37) := byte_eq s[i] 37 (by decide)
  have g15 : ((s[i].toNat : Int) == 33) = (s[i] == 33) := byte_eq s[i] 33 (by decide)
  generalize (s.data.toList.drop i).take 2 = T at hT HF HN
  rw [twos_or] at HF HN
  generalize signF (s.data.toList.drop i) = R at *
  unfold isOne at HN
  generalize (s[i] == 59) = d1 at *
  generalize (s[i] == 58) = d2 at *
  generalize (s[i] == 44) = d3 at *
  generalize (s[i] == 40) = d4 at *
  generalize (s[i] == 41) = d5 at *
  generalize (s[i] == 46) = d6 at *
  generalize (s[i] == 63) = d7 at *
  generalize (s[i] == 60) = d8 at *
  generalize (s[i] == 62) = d9 at *
  generalize (s[i] == 43) = d10 at *
  generalize (s[i] == 45) = d11 at *
  generalize (s[i] == 42) = d12 at *
  generalize (s[i] == 47) = d13 at *
  generalize (s[i] == 37) = d14 at *
  generalize (s[i] == 33) = d15 at *
  generalize hc1 : (T == [46, 46]) = c1 at HF HN
  generalize hc2 : (T == [45, 62]) = c2 at HF HN
  generalize hc3 : (T == [58, 61]) = c3 at HF HN
  generalize hc4 : (T == [38, 38]) = c4 at HF HN
  generalize hc5 : (T == [124, 124]) = c5 at HF HN
  generalize hc6 : (T == [61, 61]) = c6 at HF HN
  generalize hc7 : (T == [33, 61]) = c7 at HF HN
  generalize hc8 : (T == [60, 61]) = c8 at HF HN
  generalize hc9 : (T == [62, 61]) = c9 at HF HN
  have hle : (i : Int) ≤ s.size := by omega
  cases c1
  · cases c2
    · cases c3
      · cases c4
        · cases c5
          · cases c6
            · cases c7
              · cases c8
                · cases c9
                  · have HN := Lib.hid (HN.out rfl)
                    clear HF
                    cases d1
                    · cases d2
                      · cases d3
                        · cases d4
                          · cases d5
                            · cases d6
                              · cases d7
                                · cases d8
                                  · cases d9
                                    · cases d10
                                      · cases d11
                                        · cases d12
                                          · cases d13
                                            · cases d14
                                              · cases d15
                                                · have HE := Lib.hid (HN.out)
                                                  clear HN
                                                  go_enter Try.func37, Try.ntmps37
                                                  go_wp2
                                                  go_ret
                                                  exact ⟨ret_int (by rw [HE.out]; rfl), rfl⟩
                                                · have HE := Lib.hid (HN.out)
                                                  clear HN
                                                  go_enter Try.func37, Try.ntmps37
                                                  go_wp2
                                                  go_ret
                                                  exact ⟨ret_int (by rw [HE.out]; rfl), rfl⟩
                                              · have HE := Lib.hid (HN.out)
                                                clear HN
                                                go_enter Try.func37, Try.ntmps37
                                                go_wp2
                                                go_ret
                                                exact ⟨ret_int (by rw [HE.out]; rfl), rfl⟩
                                            · have HE := Lib.hid (HN.out)
                                              clear HN
                                              go_enter Try.func37, Try.ntmps37
                                              go_wp2
                                              go_ret
                                              exact ⟨ret_int (by rw [HE.out]; rfl), rfl⟩
                                          · have HE := Lib.hid (HN.out)
                                            clear HN
                                            go_enter Try.func37, Try.ntmps37
                                            go_wp2
                                            go_ret
                                            exact ⟨ret_int (by rw [HE.out]; rfl), rfl⟩
                                        · have HE := Lib.hid (HN.out)
                                          clear HN
                                          go_enter Try.func37, Try.ntmps37
                                          go_wp2
                                          go_ret
                                          exact ⟨ret_int (by rw [HE.out]; rfl), rfl⟩
                                      · have HE := Lib.hid (HN.out)
                                        clear HN
                                        go_enter Try.func37, Try.ntmps37
                                        go_wp2
                                        go_ret
                                        exact ⟨ret_int (by rw [HE.out]; rfl), rfl⟩
                                    · have HE := Lib.hid (HN.out)
                                      clear HN
                                      go_enter Try.func37, Try.ntmps37
                                      go_wp2
                                      go_ret
                                      exact ⟨ret_int (by rw [HE.out]; rfl), rfl⟩
                                  · have HE := Lib.hid (HN.out)
                                    clear HN
                                    go_enter Try.func37, Try.ntmps37
                                    go_wp2
                                    go_ret
                                    exact ⟨ret_int (by rw [HE.out]; rfl), rfl⟩
                                · have HE := Lib.hid (HN.out)
                                  clear HN
                                  go_enter Try.func37, Try.ntmps37
                                  go_wp2
                                  go_ret
                                  exact ⟨ret_int (by rw [HE.out]; rfl), rfl⟩
                              · have HE := Lib.hid (HN.out)
                                clear HN
                                go_enter Try.func37, Try.ntmps37
                                go_wp2
                                go_ret
                                exact ⟨ret_int (by rw [HE.out]; rfl), rfl⟩
                            · have HE := Lib.hid (HN.out)
                              clear HN
                              go_enter Try.func37, Try.ntmps37
                              go_wp2
                              go_ret
                              exact ⟨ret_int (by rw [HE.out]; rfl), rfl⟩
                          · have HE := Lib.hid (HN.out)
                            clear HN
                            go_enter Try.func37, Try.ntmps37
                            go_wp2
                            go_ret
                            exact ⟨ret_int (by rw [HE.out]; rfl), rfl⟩
                        · have HE := Lib.hid (HN.out)
                          clear HN
                          go_enter Try.func37, Try.ntmps37
                          go_wp2
                          go_ret
                          exact ⟨ret_int (by rw [HE.out]; rfl), rfl⟩
                      · have HE := Lib.hid (HN.out)
                        clear HN
                        go_enter Try.func37, Try.ntmps37
                        go_wp2
                        go_ret
                        exact ⟨ret_int (by rw [HE.out]; rfl), rfl⟩
                    · have HE := Lib.hid (HN.out)
                      clear HN
                      go_enter Try.func37, Try.ntmps37
                      go_wp2
                      go_ret
                      exact ⟨ret_int (by rw [HE.out]; rfl), rfl⟩
                  · have HE := Lib.hid (HF.out (by simp))
                    clear HF HN
                    go_enter Try.func37, Try.ntmps37
                    go_wp2
                    go_ret
                    exact ⟨ret_int (by rw [HE.out]; rfl), rfl⟩
                · have HE := Lib.hid (HF.out (by simp))
                  clear HF HN
                  go_enter Try.func37, Try.ntmps37
                  go_wp2
                  go_ret
                  exact ⟨ret_int (by rw [HE.out]; rfl), rfl⟩
              · have HE := Lib.hid (HF.out (by simp))
                clear HF HN
                go_enter Try.func37, Try.ntmps37
                go_wp2
                go_ret
                exact ⟨ret_int (by rw [HE.out]; rfl), rfl⟩
            · have HE := Lib.hid (HF.out (by simp))
              clear HF HN
              go_enter Try.func37, Try.ntmps37
              go_wp2
              go_ret
              exact ⟨ret_int (by rw [HE.out]; rfl), rfl⟩
          · have HE := Lib.hid (HF.out (by simp))
            clear HF HN
            go_enter Try.func37, Try.ntmps37
            go_wp2
            go_ret
            exact ⟨ret_int (by rw [HE.out]; rfl), rfl⟩
        · have HE := Lib.hid (HF.out (by simp))
          clear HF HN
          go_enter Try.func37, Try.ntmps37
          go_wp2
          go_ret
          exact ⟨ret_int (by rw [HE.out]; rfl), rfl⟩
      · have HE := Lib.hid (HF.out (by simp))
        clear HF HN
        go_enter Try.func37, Try.ntmps37
        go_wp2
        go_ret
        exact ⟨ret_int (by rw [HE.out]; rfl), rfl⟩
    · have HE := Lib.hid (HF.out (by simp))
      clear HF HN
      go_enter Try.func37, Try.ntmps37
      go_wp2
      go_ret
      exact ⟨ret_int (by rw [HE.out]; rfl), rfl⟩
  · have HE := Lib.hid (HF.out (by simp))
    clear HF HN
    go_enter Try.func37, Try.ntmps37
    go_wp2
    go_ret
    exact ⟨ret_int (by rw [HE.out]; rfl), rfl⟩
theorem sign_any (s : ByteArray) (i : Nat) (w : World) (hs : s.size ≤ 1000000) (hi : i < s.size) :
    Calls Try.prog 37 #[.string s, .int .i64 (i : Int)] w fun e w' => e = .returned (.int .i64 ((signF (s.data.toList.drop i) : Nat) : Int)) ∧ w' = w := by
  by_cases h : i + 2 ≤ s.size
  · exact signR_2 s i w hs hi h
  · exact signR_1 s i w hs hi (by omega)
end Go.Proofs.Ytebhfcjkaoldmaa
