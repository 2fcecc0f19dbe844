/- What Reserved and Name of both sides answer. -/
import Derived.Test.YtebhfcjkaoldmaaLexC
namespace Go.Proofs.Ytebhfcjkaoldmaa
open Go.RowKit

def wordsL : List Bytes := [[112, 114, 111, 103, 114, 97, 109], [118, 97, 114], [114, 117, 108, 101], [98, 111, 111, 108], [112, 111, 114, 116], [116, 114, 117, 101], [102, 97, 108, 115, 101], [110, 111, 110, 101], [110], [105, 100, 115], [105, 100], [100, 101, 103], [114, 111, 111, 116], [113], [119, 101, 105, 103, 104, 116], [98, 97, 99, 107], [97, 108, 108], [115, 111, 109, 101], [99, 111, 117, 110, 116], [102, 105, 114, 115, 116], [109, 105, 110], [109, 97, 120], [115, 117, 109], [109, 101, 120], [115, 101, 99, 111, 110, 100], [104, 101, 97, 100]]
def resF (l : Bytes) : Bool := wordsL.contains l
theorem res_or (T : Bytes) : resF T = (T == [112, 114, 111, 103, 114, 97, 109] || (T == [118, 97, 114] || (T == [114, 117, 108, 101] || (T == [98, 111, 111, 108] || (T == [112, 111, 114, 116] || (T == [116, 114, 117, 101] || (T == [102, 97, 108, 115, 101] || (T == [110, 111, 110, 101] || (T == [110] || (T == [105, 100, 115] || (T == [105, 100] || (T == [100, 101, 103] || (T == [114, 111, 111, 116] || (T == [113] || (T == [119, 101, 105, 103, 104, 116] || (T == [98, 97, 99, 107] || (T == [97, 108, 108] || (T == [115, 111, 109, 101] || (T == [99, 111, 117, 110, 116] || (T == [102, 105, 114, 115, 116] || (T == [109, 105, 110] || (T == [109, 97, 120] || (T == [115, 117, 109] || (T == [109, 101, 120] || (T == [115, 101, 99, 111, 110, 100] || (T == [104, 101, 97, 100])))))))))))))))))))))))))) := by
  simp only [resF, wordsL, List.contains_cons, List.contains_nil, Bool.or_false]

set_option maxHeartbeats 2000000 in
theorem res_any (s : ByteArray) (w : World) : Calls Try.prog 14 #[.string s] w fun e w' => e = .returned (.bool (resF s.data.toList)) ∧ w' = w := by
  have hT : s.toList = s.data.toList := by rw [ByteArray.toList_eq]
  generalize s.data.toList = T at *
  have HR := Lib.hid (res_or T)
  generalize hc1 : (T == [112, 114, 111, 103, 114, 97, 109]) = c1 at HR
  generalize hc2 : (T == [118, 97, 114]) = c2 at HR
  generalize hc3 : (T == [114, 117, 108, 101]) = c3 at HR
  generalize hc4 : (T == [98, 111, 111, 108]) = c4 at HR
  generalize hc5 : (T == [112, 111, 114, 116]) = c5 at HR
  generalize hc6 : (T == [116, 114, 117, 101]) = c6 at HR
  generalize hc7 : (T == [102, 97, 108, 115, 101]) = c7 at HR
  generalize hc8 : (T == [110, 111, 110, 101]) = c8 at HR
  generalize hc9 : (T == [110]) = c9 at HR
  generalize hc10 : (T == [105, 100, 115]) = c10 at HR
  generalize hc11 : (T == [105, 100]) = c11 at HR
  generalize hc12 : (T == [100, 101, 103]) = c12 at HR
  generalize hc13 : (T == [114, 111, 111, 116]) = c13 at HR
  generalize hc14 : (T == [113]) = c14 at HR
  generalize hc15 : (T == [119, 101, 105, 103, 104, 116]) = c15 at HR
  generalize hc16 : (T == [98, 97, 99, 107]) = c16 at HR
  generalize hc17 : (T == [97, 108, 108]) = c17 at HR
  generalize hc18 : (T == [115, 111, 109, 101]) = c18 at HR
  generalize hc19 : (T == [99, 111, 117, 110, 116]) = c19 at HR
  generalize hc20 : (T == [102, 105, 114, 115, 116]) = c20 at HR
  generalize hc21 : (T == [109, 105, 110]) = c21 at HR
  generalize hc22 : (T == [109, 97, 120]) = c22 at HR
  generalize hc23 : (T == [115, 117, 109]) = c23 at HR
  generalize hc24 : (T == [109, 101, 120]) = c24 at HR
  generalize hc25 : (T == [115, 101, 99, 111, 110, 100]) = c25 at HR
  generalize hc26 : (T == [104, 101, 97, 100]) = c26 at HR
  cases c1
  · cases c2
    · cases c3
      · cases c4
        · cases c5
          · cases c6
            · cases c7
              · cases c8
                · cases c9
                  · cases c10
                    · cases c11
                      · cases c12
                        · cases c13
                          · cases c14
                            · cases c15
                              · cases c16
                                · cases c17
                                  · cases c18
                                    · cases c19
                                      · cases c20
                                        · cases c21
                                          · cases c22
                                            · cases c23
                                              · cases c24
                                                · cases c25
                                                  · cases c26
                                                    · go_enter Try.func14, Try.ntmps14
                                                      go_wp2
                                                      go_ret
                                                      exact ⟨ret_bool (by rw [HR.out]; rfl), rfl⟩
                                                    · go_enter Try.func14, Try.ntmps14
                                                      go_wp2
                                                      go_ret
                                                      exact ⟨ret_bool (by rw [HR.out]; rfl), rfl⟩
                                                  · go_enter Try.func14, Try.ntmps14
                                                    go_wp2
                                                    go_ret
                                                    exact ⟨ret_bool (by rw [HR.out]; rfl), rfl⟩
                                                · go_enter Try.func14, Try.ntmps14
                                                  go_wp2
                                                  go_ret
                                                  exact ⟨ret_bool (by rw [HR.out]; rfl), rfl⟩
                                              · go_enter Try.func14, Try.ntmps14
                                                go_wp2
                                                go_ret
                                                exact ⟨ret_bool (by rw [HR.out]; rfl), rfl⟩
                                            · go_enter Try.func14, Try.ntmps14
                                              go_wp2
                                              go_ret
                                              exact ⟨ret_bool (by rw [HR.out]; rfl), rfl⟩
                                          · go_enter Try.func14, Try.ntmps14
                                            go_wp2
                                            go_ret
                                            exact ⟨ret_bool (by rw [HR.out]; rfl), rfl⟩
                                        · go_enter Try.func14, Try.ntmps14
                                          go_wp2
                                          go_ret
                                          exact ⟨ret_bool (by rw [HR.out]; rfl), rfl⟩
                                      · go_enter Try.func14, Try.ntmps14
                                        go_wp2
                                        go_ret
                                        exact ⟨ret_bool (by rw [HR.out]; rfl), rfl⟩
                                    · go_enter Try.func14, Try.ntmps14
                                      go_wp2
                                      go_ret
                                      exact ⟨ret_bool (by rw [HR.out]; rfl), rfl⟩
                                  · go_enter Try.func14, Try.ntmps14
                                    go_wp2
                                    go_ret
                                    exact ⟨ret_bool (by rw [HR.out]; rfl), rfl⟩
                                · go_enter Try.func14, Try.ntmps14
                                  go_wp2
                                  go_ret
                                  exact ⟨ret_bool (by rw [HR.out]; rfl), rfl⟩
                              · go_enter Try.func14, Try.ntmps14
                                go_wp2
                                go_ret
                                exact ⟨ret_bool (by rw [HR.out]; rfl), rfl⟩
                            · go_enter Try.func14, Try.ntmps14
                              go_wp2
                              go_ret
                              exact ⟨ret_bool (by rw [HR.out]; rfl), rfl⟩
                          · go_enter Try.func14, Try.ntmps14
                            go_wp2
                            go_ret
                            exact ⟨ret_bool (by rw [HR.out]; rfl), rfl⟩
                        · go_enter Try.func14, Try.ntmps14
                          go_wp2
                          go_ret
                          exact ⟨ret_bool (by rw [HR.out]; rfl), rfl⟩
                      · go_enter Try.func14, Try.ntmps14
                        go_wp2
                        go_ret
                        exact ⟨ret_bool (by rw [HR.out]; rfl), rfl⟩
                    · go_enter Try.func14, Try.ntmps14
                      go_wp2
                      go_ret
                      exact ⟨ret_bool (by rw [HR.out]; rfl), rfl⟩
                  · go_enter Try.func14, Try.ntmps14
                    go_wp2
                    go_ret
                    exact ⟨ret_bool (by rw [HR.out]; rfl), rfl⟩
                · go_enter Try.func14, Try.ntmps14
                  go_wp2
                  go_ret
                  exact ⟨ret_bool (by rw [HR.out]; rfl), rfl⟩
              · go_enter Try.func14, Try.ntmps14
                go_wp2
                go_ret
                exact ⟨ret_bool (by rw [HR.out]; rfl), rfl⟩
            · go_enter Try.func14, Try.ntmps14
              go_wp2
              go_ret
              exact ⟨ret_bool (by rw [HR.out]; rfl), rfl⟩
          · go_enter Try.func14, Try.ntmps14
            go_wp2
            go_ret
            exact ⟨ret_bool (by rw [HR.out]; rfl), rfl⟩
        · go_enter Try.func14, Try.ntmps14
          go_wp2
          go_ret
          exact ⟨ret_bool (by rw [HR.out]; rfl), rfl⟩
      · go_enter Try.func14, Try.ntmps14
        go_wp2
        go_ret
        exact ⟨ret_bool (by rw [HR.out]; rfl), rfl⟩
    · go_enter Try.func14, Try.ntmps14
      go_wp2
      go_ret
      exact ⟨ret_bool (by rw [HR.out]; rfl), rfl⟩
  · go_enter Try.func14, Try.ntmps14
    go_wp2
    go_ret
    exact ⟨ret_bool (by rw [HR.out]; rfl), rfl⟩
set_option maxHeartbeats 2000000 in
theorem resR_any (s : ByteArray) (w : World) : Calls Try.prog 15 #[.string s] w fun e w' => e = .returned (.bool (resF s.data.toList)) ∧ w' = w := by
  have hT : s.toList = s.data.toList := by rw [ByteArray.toList_eq]
  generalize s.data.toList = T at *
  have HR := Lib.hid (res_or T)
  generalize hc1 : (T == [112, 114, 111, 103, 114, 97, 109]) = c1 at HR
  generalize hc2 : (T == [118, 97, 114]) = c2 at HR
  generalize hc3 : (T == [114, 117, 108, 101]) = c3 at HR
  generalize hc4 : (T == [98, 111, 111, 108]) = c4 at HR
  generalize hc5 : (T == [112, 111, 114, 116]) = c5 at HR
  generalize hc6 : (T == [116, 114, 117, 101]) = c6 at HR
  generalize hc7 : (T == [102, 97, 108, 115, 101]) = c7 at HR
  generalize hc8 : (T == [110, 111, 110, 101]) = c8 at HR
  generalize hc9 : (T == [110]) = c9 at HR
  generalize hc10 : (T == [105, 100, 115]) = c10 at HR
  generalize hc11 : (T == [105, 100]) = c11 at HR
  generalize hc12 : (T == [100, 101, 103]) = c12 at HR
  generalize hc13 : (T == [114, 111, 111, 116]) = c13 at HR
  generalize hc14 : (T == [113]) = c14 at HR
  generalize hc15 : (T == [119, 101, 105, 103, 104, 116]) = c15 at HR
  generalize hc16 : (T == [98, 97, 99, 107]) = c16 at HR
  generalize hc17 : (T == [97, 108, 108]) = c17 at HR
  generalize hc18 : (T == [115, 111, 109, 101]) = c18 at HR
  generalize hc19 : (T == [99, 111, 117, 110, 116]) = c19 at HR
  generalize hc20 : (T == [102, 105, 114, 115, 116]) = c20 at HR
  generalize hc21 : (T == [109, 105, 110]) = c21 at HR
  generalize hc22 : (T == [109, 97, 120]) = c22 at HR
  generalize hc23 : (T == [115, 117, 109]) = c23 at HR
  generalize hc24 : (T == [109, 101, 120]) = c24 at HR
  generalize hc25 : (T == [115, 101, 99, 111, 110, 100]) = c25 at HR
  generalize hc26 : (T == [104, 101, 97, 100]) = c26 at HR
  cases c1
  · cases c2
    · cases c3
      · cases c4
        · cases c5
          · cases c6
            · cases c7
              · cases c8
                · cases c9
                  · cases c10
                    · cases c11
                      · cases c12
                        · cases c13
                          · cases c14
                            · cases c15
                              · cases c16
                                · cases c17
                                  · cases c18
                                    · cases c19
                                      · cases c20
                                        · cases c21
                                          · cases c22
                                            · cases c23
                                              · cases c24
                                                · cases c25
                                                  · cases c26
                                                    · go_enter Try.func15, Try.ntmps15
                                                      go_wp2
                                                      go_ret
                                                      exact ⟨ret_bool (by rw [HR.out]; rfl), rfl⟩
                                                    · go_enter Try.func15, Try.ntmps15
                                                      go_wp2
                                                      go_ret
                                                      exact ⟨ret_bool (by rw [HR.out]; rfl), rfl⟩
                                                  · go_enter Try.func15, Try.ntmps15
                                                    go_wp2
                                                    go_ret
                                                    exact ⟨ret_bool (by rw [HR.out]; rfl), rfl⟩
                                                · go_enter Try.func15, Try.ntmps15
                                                  go_wp2
                                                  go_ret
                                                  exact ⟨ret_bool (by rw [HR.out]; rfl), rfl⟩
                                              · go_enter Try.func15, Try.ntmps15
                                                go_wp2
                                                go_ret
                                                exact ⟨ret_bool (by rw [HR.out]; rfl), rfl⟩
                                            · go_enter Try.func15, Try.ntmps15
                                              go_wp2
                                              go_ret
                                              exact ⟨ret_bool (by rw [HR.out]; rfl), rfl⟩
                                          · go_enter Try.func15, Try.ntmps15
                                            go_wp2
                                            go_ret
                                            exact ⟨ret_bool (by rw [HR.out]; rfl), rfl⟩
                                        · go_enter Try.func15, Try.ntmps15
                                          go_wp2
                                          go_ret
                                          exact ⟨ret_bool (by rw [HR.out]; rfl), rfl⟩
                                      · go_enter Try.func15, Try.ntmps15
                                        go_wp2
                                        go_ret
                                        exact ⟨ret_bool (by rw [HR.out]; rfl), rfl⟩
                                    · go_enter Try.func15, Try.ntmps15
                                      go_wp2
                                      go_ret
                                      exact ⟨ret_bool (by rw [HR.out]; rfl), rfl⟩
                                  · go_enter Try.func15, Try.ntmps15
                                    go_wp2
                                    go_ret
                                    exact ⟨ret_bool (by rw [HR.out]; rfl), rfl⟩
                                · go_enter Try.func15, Try.ntmps15
                                  go_wp2
                                  go_ret
                                  exact ⟨ret_bool (by rw [HR.out]; rfl), rfl⟩
                              · go_enter Try.func15, Try.ntmps15
                                go_wp2
                                go_ret
                                exact ⟨ret_bool (by rw [HR.out]; rfl), rfl⟩
                            · go_enter Try.func15, Try.ntmps15
                              go_wp2
                              go_ret
                              exact ⟨ret_bool (by rw [HR.out]; rfl), rfl⟩
                          · go_enter Try.func15, Try.ntmps15
                            go_wp2
                            go_ret
                            exact ⟨ret_bool (by rw [HR.out]; rfl), rfl⟩
                        · go_enter Try.func15, Try.ntmps15
                          go_wp2
                          go_ret
                          exact ⟨ret_bool (by rw [HR.out]; rfl), rfl⟩
                      · go_enter Try.func15, Try.ntmps15
                        go_wp2
                        go_ret
                        exact ⟨ret_bool (by rw [HR.out]; rfl), rfl⟩
                    · go_enter Try.func15, Try.ntmps15
                      go_wp2
                      go_ret
                      exact ⟨ret_bool (by rw [HR.out]; rfl), rfl⟩
                  · go_enter Try.func15, Try.ntmps15
                    go_wp2
                    go_ret
                    exact ⟨ret_bool (by rw [HR.out]; rfl), rfl⟩
                · go_enter Try.func15, Try.ntmps15
                  go_wp2
                  go_ret
                  exact ⟨ret_bool (by rw [HR.out]; rfl), rfl⟩
              · go_enter Try.func15, Try.ntmps15
                go_wp2
                go_ret
                exact ⟨ret_bool (by rw [HR.out]; rfl), rfl⟩
            · go_enter Try.func15, Try.ntmps15
              go_wp2
              go_ret
              exact ⟨ret_bool (by rw [HR.out]; rfl), rfl⟩
          · go_enter Try.func15, Try.ntmps15
            go_wp2
            go_ret
            exact ⟨ret_bool (by rw [HR.out]; rfl), rfl⟩
        · go_enter Try.func15, Try.ntmps15
          go_wp2
          go_ret
          exact ⟨ret_bool (by rw [HR.out]; rfl), rfl⟩
      · go_enter Try.func15, Try.ntmps15
        go_wp2
        go_ret
        exact ⟨ret_bool (by rw [HR.out]; rfl), rfl⟩
    · go_enter Try.func15, Try.ntmps15
      go_wp2
      go_ret
      exact ⟨ret_bool (by rw [HR.out]; rfl), rfl⟩
  · go_enter Try.func15, Try.ntmps15
    go_wp2
    go_ret
    exact ⟨ret_bool (by rw [HR.out]; rfl), rfl⟩
end Go.Proofs.Ytebhfcjkaoldmaa
