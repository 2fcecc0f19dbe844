/- What Name of both sides answers. -/
import Derived.Test.YtdbahiepihkagaaGreatDoorLexL
import Derived.Test.YtdbahiepihkagaaGreatDoorLexV
namespace Go.Proofs.YtdbahiepihkagaaGreatDoor
set_option maxRecDepth 100000
open Go.RowKit

def OkSays (ts : List Tok) (B : Nat) (w : World) (e : Ending) (w' : World) : Prop :=
  (∃ a c, e = .returned (.tuple #[.slice a ts.length c, .int .i64 0, .int .i64 0]) ∧ TokAt w' a ts ∧ ts.length ≤ c) ∧ Below B w w'
theorem scan_ok_at {s : ByteArray} {ts : List Tok} (h : scanB s.data.toList = .inr ts) (w : World) : Calls Tryz.prog 50 #[.string s] w (OkSays ts w.heap.size w) := by
  refine (scan_any s w).mono ?_
  rintro e w' ⟨h1, h2⟩
  rw [h] at h1
  obtain ⟨v, rfl, h3⟩ := h1
  obtain ⟨a, c, rfl, h4, h5⟩ := tok_own h3
  exact ⟨⟨a, c, rfl, h4, h5⟩, h2⟩
theorem scan_bad_at {s : ByteArray} {p f : Nat} (h : scanB s.data.toList = .inl (p, f)) (w : World) : Calls Tryz.prog 50 #[.string s] w fun e w' => e = .returned (.tuple #[.slice none 0 0, .int .i64 (p : Int), .int .i64 (f : Int)]) ∧ Below w.heap.size w w' := by
  refine (scan_any s w).mono ?_
  rintro e w' ⟨h1, h2⟩
  rw [h] at h1
  exact ⟨h1, h2⟩
theorem scanR_ok_at {s : ByteArray} {ts : List Tok} (h : scanB s.data.toList = .inr ts) (w : World) : Calls Tryz.prog 30 #[.string s] w (OkSays ts w.heap.size w) := by
  refine (scanR_any s w).mono ?_
  rintro e w' ⟨h1, h2⟩
  rw [h] at h1
  obtain ⟨v, rfl, h3⟩ := h1
  obtain ⟨a, c, rfl, h4, h5⟩ := tok_own h3
  exact ⟨⟨a, c, rfl, h4, h5⟩, h2⟩
theorem scanR_bad_at {s : ByteArray} {p f : Nat} (h : scanB s.data.toList = .inl (p, f)) (w : World) : Calls Tryz.prog 30 #[.string s] w fun e w' => e = .returned (.tuple #[.slice none 0 0, .int .i64 (p : Int), .int .i64 (f : Int)]) ∧ Below w.heap.size w w' := by
  refine (scanR_any s w).mono ?_
  rintro e w' ⟨h1, h2⟩
  rw [h] at h1
  exact ⟨h1, h2⟩
/-- the errors of a scan -/
theorem scan_errs {l : Bytes} {p f : Nat} (h : scanB l = .inl (p, f)) : f = 2 ∨ f = 3 ∨ f = 4 ∨ f = 5 := by
  unfold scanB at h
  split at h
  · injection h with h
    injection h with h1 h2
    exact .inr (.inl h2.symm)
  · obtain ⟨ts, r, _, _, h4⟩ := scan_err l.length (Nat.le_refl _) (by omega) h
    rcases h4 with ⟨_, h4⟩ | ⟨_, h4⟩
    · exact .inr (.inl h4)
    · rcases tok_errs h4 with h | h | h <;> simp [h]

def exTs : List Tok := [⟨1, 0, 1, 0⟩, ⟨3, 1, 3, 0⟩, ⟨1, 3, 4, 0⟩, ⟨3, 4, 5, 0⟩, ⟨1, 5, 6, 0⟩, ⟨3, 6, 7, 0⟩, ⟨2, 7, 8, 1⟩]
theorem ex_scan : scanB [100, 58, 61, 113, 46, 100, 43, 49] = .inr exTs := by decide +kernel
def okF : (Nat × Nat) ⊕ List Tok → Bool
  | .inr _ => true
  | .inl _ => false
def fairF (s : ByteArray) : Bool := decide (s.size ≤ 2000) && okF (scanB s.data.toList)
theorem fair_true {s : ByteArray} (h : fairF s = true) : s.size ≤ 2000 ∧ ∃ ts, scanB s.data.toList = .inr ts := by
  unfold fairF at h
  cases h2 : scanB s.data.toList with
  | inl x => rw [h2] at h; simp [okF] at h
  | inr ts => exact ⟨by rw [h2] at h; simpa [okF] using h, ts, rfl⟩
end Go.Proofs.YtdbahiepihkagaaGreatDoor
namespace Go.Proofs.YtdbahiepihkagaaGreatDoor
open Go.RowKit

def wordsL : List Bytes := [[112, 114, 111, 103, 114, 97, 109], [118, 97, 114], [114, 117, 108, 101], [98, 111, 111, 108], [112, 111, 114, 116], [116, 114, 117, 101], [102, 97, 108, 115, 101], [110, 111, 110, 101], [110], [105, 100, 115], [105, 100], [100, 101, 103], [114, 111, 111, 116], [113], [119, 101, 105, 103, 104, 116], [98, 97, 99, 107], [97, 108, 108], [115, 111, 109, 101], [99, 111, 117, 110, 116], [102, 105, 114, 115, 116], [109, 105, 110], [109, 97, 120], [115, 117, 109], [109, 101, 120], [115, 101, 99, 111, 110, 100], [104, 101, 97, 100]]
def resF (l : Bytes) : Bool := wordsL.contains l
theorem res_or (T : Bytes) : resF T = (T == [112, 114, 111, 103, 114, 97, 109] || (T == [118, 97, 114] || (T == [114, 117, 108, 101] || (T == [98, 111, 111, 108] || (T == [112, 111, 114, 116] || (T == [116, 114, 117, 101] || (T == [102, 97, 108, 115, 101] || (T == [110, 111, 110, 101] || (T == [110] || (T == [105, 100, 115] || (T == [105, 100] || (T == [100, 101, 103] || (T == [114, 111, 111, 116] || (T == [113] || (T == [119, 101, 105, 103, 104, 116] || (T == [98, 97, 99, 107] || (T == [97, 108, 108] || (T == [115, 111, 109, 101] || (T == [99, 111, 117, 110, 116] || (T == [102, 105, 114, 115, 116] || (T == [109, 105, 110] || (T == [109, 97, 120] || (T == [115, 117, 109] || (T == [109, 101, 120] || (T == [115, 101, 99, 111, 110, 100] || (T == [104, 101, 97, 100])))))))))))))))))))))))))) := by
  simp only [resF, wordsL, List.contains_cons, List.contains_nil, Bool.or_false]

set_option maxHeartbeats 2000000 in
theorem res_any (s : ByteArray) (w : World) : Calls Tryz.prog 126 #[.string s] w fun e w' => e = .returned (.bool (resF s.data.toList)) ∧ w' = w := by
  have hT : s.toList = s.data.toList := by rw [ByteArray.toList_eq]
  generalize s.data.toList = T at *
  have HR := Lib.hid (res_or T)
  generalize hc1 : (T == [112, 114, 111, 103, 114, 97, 109]) = c1 at HR
  generalize hc2 : (T == [118, 97, 114]) = c2 at HR
  generalize hc3 : (T == [114, 117, 108, 101]) = c3 at HR
  generalize hc4 : (T == [98, 111, 111, 108]) = c4 at HR
  generalize hc5 : (T == [112, 111, 114, 116]) = c5 at HR
  generalize hc6 : (T == [116, 114, 117, 101]) = c6 at HR
  generalize hc7 : (T == [102, 97, 108, 115, 101]) = c7 at HR
  generalize hc8 : (T == [110, 111, 110, 101]) = c8 at HR
  generalize hc9 : (T == [110]) = c9 at HR
  generalize hc10 : (T == [105, 100, 115]) = c10 at HR
  generalize hc11 : (T == [105, 100]) = c11 at HR
  generalize hc12 : (T == [100, 101, 103]) = c12 at HR
  generalize hc13 : (T == [114, 111, 111, 116]) = c13 at HR
  generalize hc14 : (T == [113]) = c14 at HR
  generalize hc15 : (T == [119, 101, 105, 103, 104, 116]) = c15 at HR
  generalize hc16 : (T == [98, 97, 99, 107]) = c16 at HR
  generalize hc17 : (T == [97, 108, 108]) = c17 at HR
  generalize hc18 : (T == [115, 111, 109, 101]) = c18 at HR
  generalize hc19 : (T == [99, 111, 117, 110, 116]) = c19 at HR
  generalize hc20 : (T == [102, 105, 114, 115, 116]) = c20 at HR
  generalize hc21 : (T == [109, 105, 110]) = c21 at HR
  generalize hc22 : (T == [109, 97, 120]) = c22 at HR
  generalize hc23 : (T == [115, 117, 109]) = c23 at HR
  generalize hc24 : (T == [109, 101, 120]) = c24 at HR
  generalize hc25 : (T == [115, 101, 99, 111, 110, 100]) = c25 at HR
  generalize hc26 : (T == [104, 101, 97, 100]) = c26 at HR
  cases c1
  · cases c2
    · cases c3
      · cases c4
        · cases c5
          · cases c6
            · cases c7
              · cases c8
                · cases c9
                  · cases c10
                    · cases c11
                      · cases c12
                        · cases c13
                          · cases c14
                            · cases c15
                              · cases c16
                                · cases c17
                                  · cases c18
                                    · cases c19
                                      · cases c20
                                        · cases c21
                                          · cases c22
                                            · cases c23
                                              · cases c24
                                                · cases c25
                                                  · cases c26
                                                    · go_enter Tryz.func126, Tryz.ntmps126
                                                      go_wp2
                                                      go_ret
                                                      exact ⟨ret_bool (by rw [HR.out]; rfl), rfl⟩
                                                    · go_enter Tryz.func126, Tryz.ntmps126
                                                      go_wp2
                                                      go_ret
                                                      exact ⟨ret_bool (by rw [HR.out]; rfl), rfl⟩
                                                  · go_enter Tryz.func126, Tryz.ntmps126
                                                    go_wp2
                                                    go_ret
                                                    exact ⟨ret_bool (by rw [HR.out]; rfl), rfl⟩
                                                · go_enter Tryz.func126, Tryz.ntmps126
                                                  go_wp2
                                                  go_ret
                                                  exact ⟨ret_bool (by rw [HR.out]; rfl), rfl⟩
                                              · go_enter Tryz.func126, Tryz.ntmps126
                                                go_wp2
                                                go_ret
                                                exact ⟨ret_bool (by rw [HR.out]; rfl), rfl⟩
                                            · go_enter Tryz.func126, Tryz.ntmps126
                                              go_wp2
                                              go_ret
                                              exact ⟨ret_bool (by rw [HR.out]; rfl), rfl⟩
                                          · go_enter Tryz.func126, Tryz.ntmps126
                                            go_wp2
                                            go_ret
                                            exact ⟨ret_bool (by rw [HR.out]; rfl), rfl⟩
                                        · go_enter Tryz.func126, Tryz.ntmps126
                                          go_wp2
                                          go_ret
                                          exact ⟨ret_bool (by rw [HR.out]; rfl), rfl⟩
                                      · go_enter Tryz.func126, Tryz.ntmps126
                                        go_wp2
                                        go_ret
                                        exact ⟨ret_bool (by rw [HR.out]; rfl), rfl⟩
                                    · go_enter Tryz.func126, Tryz.ntmps126
                                      go_wp2
                                      go_ret
                                      exact ⟨ret_bool (by rw [HR.out]; rfl), rfl⟩
                                  · go_enter Tryz.func126, Tryz.ntmps126
                                    go_wp2
                                    go_ret
                                    exact ⟨ret_bool (by rw [HR.out]; rfl), rfl⟩
                                · go_enter Tryz.func126, Tryz.ntmps126
                                  go_wp2
                                  go_ret
                                  exact ⟨ret_bool (by rw [HR.out]; rfl), rfl⟩
                              · go_enter Tryz.func126, Tryz.ntmps126
                                go_wp2
                                go_ret
                                exact ⟨ret_bool (by rw [HR.out]; rfl), rfl⟩
                            · go_enter Tryz.func126, Tryz.ntmps126
                              go_wp2
                              go_ret
                              exact ⟨ret_bool (by rw [HR.out]; rfl), rfl⟩
                          · go_enter Tryz.func126, Tryz.ntmps126
                            go_wp2
                            go_ret
                            exact ⟨ret_bool (by rw [HR.out]; rfl), rfl⟩
                        · go_enter Tryz.func126, Tryz.ntmps126
                          go_wp2
                          go_ret
                          exact ⟨ret_bool (by rw [HR.out]; rfl), rfl⟩
                      · go_enter Tryz.func126, Tryz.ntmps126
                        go_wp2
                        go_ret
                        exact ⟨ret_bool (by rw [HR.out]; rfl), rfl⟩
                    · go_enter Tryz.func126, Tryz.ntmps126
                      go_wp2
                      go_ret
                      exact ⟨ret_bool (by rw [HR.out]; rfl), rfl⟩
                  · go_enter Tryz.func126, Tryz.ntmps126
                    go_wp2
                    go_ret
                    exact ⟨ret_bool (by rw [HR.out]; rfl), rfl⟩
                · go_enter Tryz.func126, Tryz.ntmps126
                  go_wp2
                  go_ret
                  exact ⟨ret_bool (by rw [HR.out]; rfl), rfl⟩
              · go_enter Tryz.func126, Tryz.ntmps126
                go_wp2
                go_ret
                exact ⟨ret_bool (by rw [HR.out]; rfl), rfl⟩
            · go_enter Tryz.func126, Tryz.ntmps126
              go_wp2
              go_ret
              exact ⟨ret_bool (by rw [HR.out]; rfl), rfl⟩
          · go_enter Tryz.func126, Tryz.ntmps126
            go_wp2
            go_ret
            exact ⟨ret_bool (by rw [HR.out]; rfl), rfl⟩
        · go_enter Tryz.func126, Tryz.ntmps126
          go_wp2
          go_ret
          exact ⟨ret_bool (by rw [HR.out]; rfl), rfl⟩
      · go_enter Tryz.func126, Tryz.ntmps126
        go_wp2
        go_ret
        exact ⟨ret_bool (by rw [HR.out]; rfl), rfl⟩
    · go_enter Tryz.func126, Tryz.ntmps126
      go_wp2
      go_ret
      exact ⟨ret_bool (by rw [HR.out]; rfl), rfl⟩
  · go_enter Tryz.func126, Tryz.ntmps126
    go_wp2
    go_ret
    exact ⟨ret_bool (by rw [HR.out]; rfl), rfl⟩
set_option maxHeartbeats 2000000 in
theorem resR_any (s : ByteArray) (w : World) : Calls Tryz.prog 139 #[.string s] w fun e w' => e = .returned (.bool (resF s.data.toList)) ∧ w' = w := by
  have hT : s.toList = s.data.toList := by rw [ByteArray.toList_eq]
  generalize s.data.toList = T at *
  have HR := Lib.hid (res_or T)
  generalize hc1 : (T == [112, 114, 111, 103, 114, 97, 109]) = c1 at HR
  generalize hc2 : (T == [118, 97, 114]) = c2 at HR
  generalize hc3 : (T == [114, 117, 108, 101]) = c3 at HR
  generalize hc4 : (T == [98, 111, 111, 108]) = c4 at HR
  generalize hc5 : (T == [112, 111, 114, 116]) = c5 at HR
  generalize hc6 : (T == [116, 114, 117, 101]) = c6 at HR
  generalize hc7 : (T == [102, 97, 108, 115, 101]) = c7 at HR
  generalize hc8 : (T == [110, 111, 110, 101]) = c8 at HR
  generalize hc9 : (T == [110]) = c9 at HR
  generalize hc10 : (T == [105, 100, 115]) = c10 at HR
  generalize hc11 : (T == [105, 100]) = c11 at HR
  generalize hc12 : (T == [100, 101, 103]) = c12 at HR
  generalize hc13 : (T == [114, 111, 111, 116]) = c13 at HR
  generalize hc14 : (T == [113]) = c14 at HR
  generalize hc15 : (T == [119, 101, 105, 103, 104, 116]) = c15 at HR
  generalize hc16 : (T == [98, 97, 99, 107]) = c16 at HR
  generalize hc17 : (T == [97, 108, 108]) = c17 at HR
  generalize hc18 : (T == [115, 111, 109, 101]) = c18 at HR
  generalize hc19 : (T == [99, 111, 117, 110, 116]) = c19 at HR
  generalize hc20 : (T == [102, 105, 114, 115, 116]) = c20 at HR
  generalize hc21 : (T == [109, 105, 110]) = c21 at HR
  generalize hc22 : (T == [109, 97, 120]) = c22 at HR
  generalize hc23 : (T == [115, 117, 109]) = c23 at HR
  generalize hc24 : (T == [109, 101, 120]) = c24 at HR
  generalize hc25 : (T == [115, 101, 99, 111, 110, 100]) = c25 at HR
  generalize hc26 : (T == [104, 101, 97, 100]) = c26 at HR
  cases c1
  · cases c2
    · cases c3
      · cases c4
        · cases c5
          · cases c6
            · cases c7
              · cases c8
                · cases c9
                  · cases c10
                    · cases c11
                      · cases c12
                        · cases c13
                          · cases c14
                            · cases c15
                              · cases c16
                                · cases c17
                                  · cases c18
                                    · cases c19
                                      · cases c20
                                        · cases c21
                                          · cases c22
                                            · cases c23
                                              · cases c24
                                                · cases c25
                                                  · cases c26
                                                    · go_enter Tryz.func139, Tryz.ntmps139
                                                      go_wp2
                                                      go_ret
                                                      exact ⟨ret_bool (by rw [HR.out]; rfl), rfl⟩
                                                    · go_enter Tryz.func139, Tryz.ntmps139
                                                      go_wp2
                                                      go_ret
                                                      exact ⟨ret_bool (by rw [HR.out]; rfl), rfl⟩
                                                  · go_enter Tryz.func139, Tryz.ntmps139
                                                    go_wp2
                                                    go_ret
                                                    exact ⟨ret_bool (by rw [HR.out]; rfl), rfl⟩
                                                · go_enter Tryz.func139, Tryz.ntmps139
                                                  go_wp2
                                                  go_ret
                                                  exact ⟨ret_bool (by rw [HR.out]; rfl), rfl⟩
                                              · go_enter Tryz.func139, Tryz.ntmps139
                                                go_wp2
                                                go_ret
                                                exact ⟨ret_bool (by rw [HR.out]; rfl), rfl⟩
                                            · go_enter Tryz.func139, Tryz.ntmps139
                                              go_wp2
                                              go_ret
                                              exact ⟨ret_bool (by rw [HR.out]; rfl), rfl⟩
                                          · go_enter Tryz.func139, Tryz.ntmps139
                                            go_wp2
                                            go_ret
                                            exact ⟨ret_bool (by rw [HR.out]; rfl), rfl⟩
                                        · go_enter Tryz.func139, Tryz.ntmps139
                                          go_wp2
                                          go_ret
                                          exact ⟨ret_bool (by rw [HR.out]; rfl), rfl⟩
                                      · go_enter Tryz.func139, Tryz.ntmps139
                                        go_wp2
                                        go_ret
                                        exact ⟨ret_bool (by rw [HR.out]; rfl), rfl⟩
                                    · go_enter Tryz.func139, Tryz.ntmps139
                                      go_wp2
                                      go_ret
                                      exact ⟨ret_bool (by rw [HR.out]; rfl), rfl⟩
                                  · go_enter Tryz.func139, Tryz.ntmps139
                                    go_wp2
                                    go_ret
                                    exact ⟨ret_bool (by rw [HR.out]; rfl), rfl⟩
                                · go_enter Tryz.func139, Tryz.ntmps139
                                  go_wp2
                                  go_ret
                                  exact ⟨ret_bool (by rw [HR.out]; rfl), rfl⟩
                              · go_enter Tryz.func139, Tryz.ntmps139
                                go_wp2
                                go_ret
                                exact ⟨ret_bool (by rw [HR.out]; rfl), rfl⟩
                            · go_enter Tryz.func139, Tryz.ntmps139
                              go_wp2
                              go_ret
                              exact ⟨ret_bool (by rw [HR.out]; rfl), rfl⟩
                          · go_enter Tryz.func139, Tryz.ntmps139
                            go_wp2
                            go_ret
                            exact ⟨ret_bool (by rw [HR.out]; rfl), rfl⟩
                        · go_enter Tryz.func139, Tryz.ntmps139
                          go_wp2
                          go_ret
                          exact ⟨ret_bool (by rw [HR.out]; rfl), rfl⟩
                      · go_enter Tryz.func139, Tryz.ntmps139
                        go_wp2
                        go_ret
                        exact ⟨ret_bool (by rw [HR.out]; rfl), rfl⟩
                    · go_enter Tryz.func139, Tryz.ntmps139
                      go_wp2
                      go_ret
                      exact ⟨ret_bool (by rw [HR.out]; rfl), rfl⟩
                  · go_enter Tryz.func139, Tryz.ntmps139
                    go_wp2
                    go_ret
                    exact ⟨ret_bool (by rw [HR.out]; rfl), rfl⟩
                · go_enter Tryz.func139, Tryz.ntmps139
                  go_wp2
                  go_ret
                  exact ⟨ret_bool (by rw [HR.out]; rfl), rfl⟩
              · go_enter Tryz.func139, Tryz.ntmps139
                go_wp2
                go_ret
                exact ⟨ret_bool (by rw [HR.out]; rfl), rfl⟩
            · go_enter Tryz.func139, Tryz.ntmps139
              go_wp2
              go_ret
              exact ⟨ret_bool (by rw [HR.out]; rfl), rfl⟩
          · go_enter Tryz.func139, Tryz.ntmps139
            go_wp2
            go_ret
            exact ⟨ret_bool (by rw [HR.out]; rfl), rfl⟩
        · go_enter Tryz.func139, Tryz.ntmps139
          go_wp2
          go_ret
          exact ⟨ret_bool (by rw [HR.out]; rfl), rfl⟩
      · go_enter Tryz.func139, Tryz.ntmps139
        go_wp2
        go_ret
        exact ⟨ret_bool (by rw [HR.out]; rfl), rfl⟩
    · go_enter Tryz.func139, Tryz.ntmps139
      go_wp2
      go_ret
      exact ⟨ret_bool (by rw [HR.out]; rfl), rfl⟩
  · go_enter Tryz.func139, Tryz.ntmps139
    go_wp2
    go_ret
    exact ⟨ret_bool (by rw [HR.out]; rfl), rfl⟩
end Go.Proofs.YtdbahiepihkagaaGreatDoor
namespace Go.Proofs.YtdbahiepihkagaaGreatDoor
open Go.RowKit

def nameF (l : Bytes) : Bool := match l with
  | [] => false
  | x :: r => decide ((x :: r).length ≤ 24) && isLet x && decide (runF isIn (x :: r) = (x :: r).length) && !resF (x :: r)
theorem name_empty : nameF [] = false := rfl
theorem name_at (s : ByteArray) (h : 0 < s.size) : nameF s.data.toList = (decide (s.size ≤ 24) && isLet s[0] && decide (runAt isIn s 0 = s.size) && !resF s.data.toList) := by
  have hl : s.data.toList.length = s.size := by simp
  have e := drop_at s h
  rw [List.drop_zero] at e
  unfold runAt
  rw [List.drop_zero, Nat.zero_add, ← hl]
  have key : ∀ (T : Bytes) (x : UInt8) (r : Bytes), T = x :: r → nameF T = (decide (T.length ≤ 24) && isLet x && decide (runF isIn T = T.length) && !resF T) := by
    rintro T x r rfl
    rfl
  exact key _ _ _ e
theorem word_empty (s : ByteArray) : s.toList.isEmpty = decide (s.size = 0) := by
  have hl : s.data.toList.length = s.size := by simp
  rw [ByteArray.toList_eq]
  rw [Bool.eq_iff_iff, List.isEmpty_iff, decide_eq_true_iff]
  constructor
  · intro e
    rw [e] at hl
    simp at hl
    omega
  · intro e
    rw [e] at hl
    exact List.length_eq_zero_iff.1 hl

set_option maxHeartbeats 2000000 in
theorem name_any (s : ByteArray) (w : World) : Calls Tryz.prog 58 #[.string s] w fun e w' => e = .returned (.bool (nameF s.data.toList)) ∧ w' = w := by
  have hem := word_empty s
  by_cases h0 : s.size = 0
  · have e0 : s.toList.isEmpty = true := by rw [hem]; simp [h0]
    have HN : Hid (nameF s.data.toList = false) := Lib.hid (by
      have : s.data.toList = [] := List.length_eq_zero_iff.1 (by simpa using h0)
      rw [this]; rfl)
    clear hem
    go_enter Tryz.func58, Tryz.ntmps58
    go_wp2
    go_ret
    exact ⟨ret_bool (by rw [HN.out]), rfl⟩
  have e0 : s.toList.isEmpty = false := by rw [hem]; simp [h0]
  have hp : 0 < s.size := by omega
  have HN := Lib.hid (name_at s hp)
  clear hem
  by_cases h24 : 24 < s.size
  · have HF : Hid (nameF s.data.toList = false) := Lib.hid (by rw [HN.out]; simp; omega)
    have d24 : decide (24 < (s.size : Int)) = true := by simp; omega
    go_enter Tryz.func58, Tryz.ntmps58
    go_wp2
    go_ret
    exact ⟨ret_bool (by rw [HF.out]), rfl⟩
  have d24 : decide (24 < (s.size : Int)) = false := by simp; omega
  have hlet := fun w => letter_any s[0] w
  cases hl : isLet s[0]
  · have HF : Hid (nameF s.data.toList = false) := Lib.hid (by rw [HN.out, hl]; simp)
    rw [hl] at hlet
    go_enter Tryz.func58, Tryz.ntmps58
    go_wp2_with (go_at_call 123; refine (hlet _).mono ?_; rintro e w1 ⟨rfl, rfl⟩)
    go_ret
    exact ⟨ret_bool (by rw [HF.out]), rfl⟩
  rw [hl] at hlet
  have hbeh := fun w => behind_in s 0 w (by omega) (by omega)
  have hres := fun w => res_any s w
  by_cases hr : runAt isIn s 0 = s.size
  · rw [hr] at hbeh
    have HF : Hid (nameF s.data.toList = !resF s.data.toList) := Lib.hid (by rw [HN.out, hl]; simp [hr]; omega)
    go_enter Tryz.func58, Tryz.ntmps58
    go_wp2_with (first | (go_at_call 123; refine (hlet _).mono ?_; rintro e w1 ⟨rfl, rfl⟩) | (go_at_call 124; refine (hbeh _).mono ?_; rintro e w1 ⟨rfl, rfl⟩) | (go_at_call 126; refine (hres _).mono ?_; rintro e w1 ⟨rfl, rfl⟩))
    go_ret
    exact ⟨ret_bool (by rw [HF.out]), rfl⟩
  · have HF : Hid (nameF s.data.toList = false) := Lib.hid (by rw [HN.out]; simp [hr])
    have hne : (((runAt isIn s 0 : Nat) : Int) == s.size) = false := by simp; omega
    generalize runAt isIn s 0 = E at *
    go_enter Tryz.func58, Tryz.ntmps58
    go_wp2_with (first | (go_at_call 123; refine (hlet _).mono ?_; rintro e w1 ⟨rfl, rfl⟩) | (go_at_call 124; refine (hbeh _).mono ?_; rintro e w1 ⟨rfl, rfl⟩))
    go_ret
    exact ⟨ret_bool (by rw [HF.out]), rfl⟩

set_option maxHeartbeats 2000000 in
theorem nameR_any (s : ByteArray) (w : World) : Calls Tryz.prog 73 #[.string s] w fun e w' => e = .returned (.bool (nameF s.data.toList)) ∧ w' = w := by
  by_cases h0 : s.size = 0
  · have d0 : decide ((s.size : Int) < 1) = true := by simp; omega
    have HN : Hid (nameF s.data.toList = false) := Lib.hid (by
      have : s.data.toList = [] := List.length_eq_zero_iff.1 (by simpa using h0)
      rw [this]; rfl)
    go_enter Tryz.func73, Tryz.ntmps73
    go_wp2
    go_ret
    exact ⟨ret_bool (by rw [HN.out]), rfl⟩
  have d0 : decide ((s.size : Int) < 1) = false := by simp; omega
  have hp : 0 < s.size := by omega
  have HN := Lib.hid (name_at s hp)
  by_cases h24 : 24 < s.size
  · have HF : Hid (nameF s.data.toList = false) := Lib.hid (by rw [HN.out]; simp; omega)
    have d24 : decide (24 < (s.size : Int)) = true := by simp; omega
    go_enter Tryz.func73, Tryz.ntmps73
    go_wp2
    go_ret
    exact ⟨ret_bool (by rw [HF.out]), rfl⟩
  have d24 : decide (24 < (s.size : Int)) = false := by simp; omega
  have hlet := fun w => letterR_any s[0] w
  cases hl : isLet s[0]
  · have HF : Hid (nameF s.data.toList = false) := Lib.hid (by rw [HN.out, hl]; simp)
    rw [hl] at hlet
    go_enter Tryz.func73, Tryz.ntmps73
    go_wp2_with (go_at_call 112; refine (hlet _).mono ?_; rintro e w1 ⟨rfl, rfl⟩)
    go_ret
    exact ⟨ret_bool (by rw [HF.out]), rfl⟩
  rw [hl] at hlet
  have HE := Lib.hid (run_yes hp (in_let hl))
  have HF1 : Hid (runAt isIn s 0 = s.size → nameF s.data.toList = !resF s.data.toList) := Lib.hid (fun hr => by rw [HN.out, hl]; simp [hr]; omega)
  have HF2 : Hid (runAt isIn s 0 ≠ s.size → nameF s.data.toList = false) := Lib.hid (fun hr => by rw [HN.out]; simp [hr])
  have hres := fun w => resR_any s w
  clear HN hl
  go_enter Tryz.func73, Tryz.ntmps73
  go_wp2_with (go_at_call 112; refine (hlet _).mono ?_; rintro e w1 ⟨rfl, rfl⟩)
  go_loop [3] (fun t => ∃ k : Nat, 1 ≤ k ∧ k ≤ s.size ∧ t = .int .i64 k ∧ runAt isIn s 0 = runAt isIn s k) (fun t => s.size - (intOf t).toNat)
  case atStart => exact ⟨1, Nat.le_refl _, by omega, rfl, HE.out⟩
  case round =>
    clear HE hlet
    obtain ⟨k, h1, hk, rfl, hR⟩ := hrel
    have HR := Lib.hid hR
    clear hR
    by_cases hlt : k < s.size
    · have hc := fun w => inner_any s[k] w
      cases hp2 : isIn s[k]
      · have HE := Lib.hid (HR.out.trans (run_no hlt hp2))
        have HF3 := Lib.hid (HF2.out (by rw [HE.out]; omega))
        rw [hp2] at hc
        clear hp2
        go_wp2_with (go_at_call 113; refine (hc _).mono ?_; rintro e w1 ⟨rfl, rfl⟩)
        go_ret
        exact ⟨ret_bool (by rw [HF3.out]), rfl⟩
      · have HE := Lib.hid (HR.out.trans (run_yes hlt hp2))
        rw [hp2] at hc
        clear hp2
        go_wp2_with (go_at_call 113; refine (hc _).mono ?_; rintro e w1 ⟨rfl, rfl⟩)
        go_round
        case rel => exact ⟨k + 1, by omega, by omega, by go_num, HE.out⟩
        case measure => simp [intOf]; omega
    · have HE := Lib.hid (HR.out.trans (run_end (by omega)))
      have HF3 := Lib.hid (HF1.out (by rw [HE.out]; omega))
      go_wp2_with (go_at_call 139; refine (hres _).mono ?_; rintro e w1 ⟨rfl, rfl⟩)
      go_ret
      exact ⟨ret_bool (by rw [HF3.out]), rfl⟩
end Go.Proofs.YtdbahiepihkagaaGreatDoor
