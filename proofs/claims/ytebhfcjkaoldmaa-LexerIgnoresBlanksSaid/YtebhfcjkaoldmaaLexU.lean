/- What token of the specification answers. -/
import Derived.Test.YtebhfcjkaoldmaaLexT
import Derived.Test.YtebhfcjkaoldmaaLexS2
namespace Go.Proofs.Ytebhfcjkaoldmaa
open Go.RowKit

/-- the world while the specification's token grows: the result's cell, and the token -/
def tokW (w : World) (k i e n : Int) : World := (w.alloc (.cells #[.int .i64 0, .int .i64 0, .int .i64 0, .int .i64 0] 32)).alloc (.cells #[.int .i64 k, .int .i64 i, .int .i64 e, .int .i64 n] 32)
theorem tokW_eq (w : World) (k i e n : Int) : tokW w k i e n = (w.alloc (.cells #[.int .i64 0, .int .i64 0, .int .i64 0, .int .i64 0] 32)).alloc (.cells #[.int .i64 k, .int .i64 i, .int .i64 e, .int .i64 n] 32) := rfl
theorem tokW_cell (w : World) (k i e n : Int) : (tokW w k i e n).cell? ⟨w.heap.size + 1, 2, none⟩ = some (.int .i64 e) := by simp [tokW, cell_push']
theorem tokW_below (w : World) (k i e n : Int) : Below w.heap.size w (tokW w k i e n) := ((Below.refl _ _).alloc (Nat.le_refl _) _).alloc (by simp) _
def endOf (w wr : World) : Nat := (intOf ((wr.cell? ⟨w.heap.size + 1, 2, none⟩).getD undef)).toNat
theorem endOf_tok (w : World) (k i n : Int) (e : Nat) : endOf w (tokW w k i e n) = e := by
  unfold endOf
  rw [tokW_cell]
  simp [intOf]

set_option maxHeartbeats 2000000 in
theorem tokenRW_any (s : ByteArray) (i : Nat) (w : World) (hs : s.size ≤ 1000000) (hi : i < s.size) (hl : isLet s[i] = true) :
    Calls Try.prog 24 #[.string s, .int .i64 (i : Int)] w fun e w' => TokSays s i e ∧ Below w.heap.size w w' := by
  have hlet := fun w => letterR_any s[i] w
  rw [hl] at hlet
  have HT := Lib.hid (tok_word hi hl)
  have HE := Lib.hid (run_yes hi (in_let hl))
  clear hl
  go_enter Try.func24, Try.ntmps24
  go_wp2_with (go_at_call 28; refine (hlet _).mono ?_; rintro e w1 ⟨rfl, rfl⟩)
  go_loopw [] (fun wr => ∃ k : Nat, i < k ∧ k ≤ s.size ∧ runAt isIn s i = runAt isIn s k ∧ wr = tokW w 1 i k 0) (fun wr => s.size - endOf w wr)
  case atStart => exact ⟨i + 1, by omega, by omega, HE.out, rfl⟩
  case round =>
    obtain ⟨k, hik, hk, hR, rfl⟩ := hrel
    have HR := Lib.hid hR
    clear hR HE
    have hm := endOf_tok w 1 i 0 k
    by_cases hlt : k < s.size
    · have hc := fun w => inner_any s[k] w
      cases hp : isIn s[k]
      · have HE := Lib.hid (HR.out.trans (run_no hlt hp))
        rw [hp] at hc
        rw [HE.out] at HT
        clear hp hm
        by_cases h24 : 24 < k - i
        · have HT2 := Lib.hid (HT.out.trans (if_pos h24))
          have h1 : 24 < (k : Int) - i := by omega
          clear HT
          rw [tokW_eq]
          go_wp2_with (go_at_call 29; refine (hc _).mono ?_; rintro e w1 ⟨rfl, rfl⟩)
          refine bodyPost_ret (v := .tuple #[tokV 0 0 0 0, .int .i64 5]) (by rw [results_ct rfl]; go_simp; rfl) rfl ?_
          exact ⟨.inl ⟨5, HT2.out, rfl⟩, ((Below.refl _ _).alloc (Nat.le_refl _) _).alloc (by simp) _⟩
        · have HT2 := Lib.hid (HT.out.trans (if_neg h24))
          have h1 : ¬ 24 < (k : Int) - i := by omega
          clear HT
          rw [tokW_eq]
          go_wp2_with (go_at_call 29; refine (hc _).mono ?_; rintro e w1 ⟨rfl, rfl⟩)
          refine bodyPost_ret (v := .tuple #[tokV 1 i k 0, .int .i64 0]) (by rw [results_ct rfl]; go_simp; rfl) rfl ?_
          exact ⟨.inr ⟨_, HT2.out, by show _ = Ending.returned (.tuple #[tokV 1 i ((i + (k - i) : Nat) : Int) 0, .int .i64 0]); rw [show i + (k - i) = k by omega]⟩, ((Below.refl _ _).alloc (Nat.le_refl _) _).alloc (by simp) _⟩
      · have HE := Lib.hid (HR.out.trans (run_yes hlt hp))
        rw [hp] at hc
        clear hp HT
        have hm2 := endOf_tok w 1 i 0 (k + 1)
        have Hm := Lib.hid hm
        have Hm2 := Lib.hid hm2
        clear hm hm2
        rw [tokW_eq]
        go_wp2_with (go_at_call 29; refine (hc _).mono ?_; rintro e w1 ⟨rfl, rfl⟩)
        go_roundw
        case rel => exact ⟨k + 1, by omega, by omega, HE.out, by unfold tokW; rfl⟩
        case measure =>
          have h1 := Hm.out
          have h2 := Hm2.out
          unfold tokW at h1 h2
          have e : ((k + 1 : Nat) : Int) = (k : Int) + 1 := by omega
          rw [e] at h2
          rw [h1, h2]
          omega
    · have HE := Lib.hid (HR.out.trans (run_end (by omega)))
      rw [HE.out] at HT
      clear hm
      by_cases h24 : 24 < k - i
      · have HT2 := Lib.hid (HT.out.trans (if_pos h24))
        have h1 : 24 < (k : Int) - i := by omega
        clear HT
        rw [tokW_eq]
        go_wp2
        refine bodyPost_ret (v := .tuple #[tokV 0 0 0 0, .int .i64 5]) (by rw [results_ct rfl]; go_simp; rfl) rfl ?_
        exact ⟨.inl ⟨5, HT2.out, rfl⟩, ((Below.refl _ _).alloc (Nat.le_refl _) _).alloc (by simp) _⟩
      · have HT2 := Lib.hid (HT.out.trans (if_neg h24))
        have h1 : ¬ 24 < (k : Int) - i := by omega
        clear HT
        rw [tokW_eq]
        go_wp2
        refine bodyPost_ret (v := .tuple #[tokV 1 i k 0, .int .i64 0]) (by rw [results_ct rfl]; go_simp; rfl) rfl ?_
        exact ⟨.inr ⟨_, HT2.out, by show _ = Ending.returned (.tuple #[tokV 1 i ((i + (k - i) : Nat) : Int) 0, .int .i64 0]); rw [show i + (k - i) = k by omega]⟩, ((Below.refl _ _).alloc (Nat.le_refl _) _).alloc (by simp) _⟩

set_option maxHeartbeats 4000000 in
theorem tokenRN_any (s : ByteArray) (i : Nat) (w : World) (hs : s.size ≤ 1000000) (hi : i < s.size) (hl : isLet s[i] = false) (hd : isDgt s[i] = true) :
    Calls Try.prog 24 #[.string s, .int .i64 (i : Int)] w fun e w' => TokSays s i e ∧ Below w.heap.size w w' := by
  have hlet := fun w => letterR_any s[i] w
  have hdig := fun w => digitR_any s[i] w
  rw [hl] at hlet
  rw [hd] at hdig
  have HT := Lib.hid (tok_num hi hl hd)
  have HE := Lib.hid (run_yes hi hd)
  have hdg := run_digits (s := s) (i := i)
  have hnumA : ∀ (k : Nat) (w0 : World), runAt isDgt s i = k → i < k → k ≤ s.size → Calls Try.prog 36 #[.string (s.extract i k)] w0 fun e w' => (∃ z : Int, e = .returned (.tuple #[.int .i64 z, .bool (!badF ((s.data.toList.drop i).take (k - i)))]) ∧ (badF ((s.data.toList.drop i).take (k - i)) = false → z = valF ((s.data.toList.drop i).take (k - i)))) ∧ w' = w0 := by
    intro k w0 hk h1 h2
    rw [hk] at hdg
    have hL : (s.extract i k).data.toList = (s.data.toList.drop i).take (k - i) := by rw [ByteArray.data_extract, Array.toList_extract]
    have h := number_any (s.extract i k) w0 (by rw [ByteArray.size_extract]; omega) (by rw [hL]; exact hdg) (by rw [ByteArray.size_extract]; omega)
    rw [hL] at h
    exact h
  have HN := Lib.hid hnumA
  clear hl hd hdg hnumA
  go_enter Try.func24, Try.ntmps24
  go_wp2_with (first | (go_at_call 28; refine (hlet _).mono ?_; rintro e w1 ⟨rfl, rfl⟩) | (go_at_call 35; refine (hdig _).mono ?_; rintro e w1 ⟨rfl, rfl⟩))
  go_loopw [] (fun wr => ∃ k : Nat, i < k ∧ k ≤ s.size ∧ runAt isDgt s i = runAt isDgt s k ∧ wr = tokW w 2 i k 0) (fun wr => s.size - endOf w wr)
  case atStart => exact ⟨i + 1, by omega, by omega, HE.out, rfl⟩
  case round =>
    obtain ⟨k, hik, hk, hR, rfl⟩ := hrel
    have HR := Lib.hid hR
    clear hR HE hdig hlet
    have hm := endOf_tok w 2 i 0 k
    have hie : (i : Int) ≤ k := by omega
    have hes : (k : Int) ≤ s.size := by omega
    by_cases hlt : k < s.size
    · have hc := fun w => digitR_any s[k] w
      cases hp : isDgt s[k]
      · have HE := Lib.hid (HR.out.trans (run_no hlt hp))
        rw [hp] at hc
        rw [HE.out] at HT
        have hnumb := fun w0 => HN.out k w0 HE.out hik hk
        clear hp hm HN
        cases hb : badF ((s.data.toList.drop i).take (k - i))
        · have HT2 : Hid (tokF (s.data.toList.drop i) = .inr ⟨2, k - i, valF ((s.data.toList.drop i).take (k - i))⟩) := Lib.hid (HT.out.trans (by rw [hb]; rfl))
          have hnum := hnumb
          rw [hb] at hnum
          clear HT hb hnumb
          rw [tokW_eq]
          go_wp2_with (first | (go_at_call 35; refine (hc _).mono ?_; rintro e w1 ⟨rfl, rfl⟩) | (go_at_call 36; refine (hnum _).mono ?_; rintro e w1 ⟨⟨z, rfl, hz⟩, rfl⟩))
          refine bodyPost_ret (v := .tuple #[tokV 2 i k z, .int .i64 0]) (by rw [results_ct rfl]; go_simp; rfl) rfl ?_
          exact ⟨.inr ⟨_, HT2.out, by show _ = Ending.returned (.tuple #[tokV 2 i ((i + (k - i) : Nat) : Int) (valF ((s.data.toList.drop i).take (k - i)) : Nat), .int .i64 0]); rw [show i + (k - i) = k by omega, hz trivial]⟩, ((Below.refl _ _).alloc (Nat.le_refl _) _).alloc (by simp) _⟩
        · have HT2 : Hid (tokF (s.data.toList.drop i) = .inl 2) := Lib.hid (HT.out.trans (by rw [hb]; rfl))
          have hnum := hnumb
          rw [hb] at hnum
          clear HT hb hnumb
          rw [tokW_eq]
          go_wp2_with (first | (go_at_call 35; refine (hc _).mono ?_; rintro e w1 ⟨rfl, rfl⟩) | (go_at_call 36; refine (hnum _).mono ?_; rintro e w1 ⟨⟨z, rfl, hz⟩, rfl⟩))
          refine bodyPost_ret (v := .tuple #[tokV 0 0 0 0, .int .i64 2]) (by rw [results_ct rfl]; go_simp; rfl) rfl ?_
          exact ⟨.inl ⟨2, HT2.out, rfl⟩, ((Below.refl _ _).alloc (Nat.le_refl _) _).alloc (by simp) _⟩
      · have HE := Lib.hid (HR.out.trans (run_yes hlt hp))
        rw [hp] at hc
        clear hp HT HN
        have hm2 := endOf_tok w 2 i 0 (k + 1)
        have Hm := Lib.hid hm
        have Hm2 := Lib.hid hm2
        clear hm hm2
        rw [tokW_eq]
        go_wp2_with (go_at_call 35; refine (hc _).mono ?_; rintro e w1 ⟨rfl, rfl⟩)
        go_roundw
        case rel => exact ⟨k + 1, by omega, by omega, HE.out, by unfold tokW; rfl⟩
        case measure =>
          have h1 := Hm.out
          have h2 := Hm2.out
          unfold tokW at h1 h2
          have e : ((k + 1 : Nat) : Int) = (k : Int) + 1 := by omega
          rw [e] at h2
          rw [h1, h2]
          omega
    · have HE := Lib.hid (HR.out.trans (run_end (by omega)))
      rw [HE.out] at HT
      have hnumb := fun w0 => HN.out k w0 HE.out hik hk
      clear hm HN
      cases hb : badF ((s.data.toList.drop i).take (k - i))
      · have HT2 : Hid (tokF (s.data.toList.drop i) = .inr ⟨2, k - i, valF ((s.data.toList.drop i).take (k - i))⟩) := Lib.hid (HT.out.trans (by rw [hb]; rfl))
        have hnum := hnumb
        rw [hb] at hnum
        clear HT hb hnumb
        rw [tokW_eq]
        go_wp2_with (go_at_call 36; refine (hnum _).mono ?_; rintro e w1 ⟨⟨z, rfl, hz⟩, rfl⟩)
        refine bodyPost_ret (v := .tuple #[tokV 2 i k z, .int .i64 0]) (by rw [results_ct rfl]; go_simp; rfl) rfl ?_
        exact ⟨.inr ⟨_, HT2.out, by show _ = Ending.returned (.tuple #[tokV 2 i ((i + (k - i) : Nat) : Int) (valF ((s.data.toList.drop i).take (k - i)) : Nat), .int .i64 0]); rw [show i + (k - i) = k by omega, hz trivial]⟩, ((Below.refl _ _).alloc (Nat.le_refl _) _).alloc (by simp) _⟩
      · have HT2 : Hid (tokF (s.data.toList.drop i) = .inl 2) := Lib.hid (HT.out.trans (by rw [hb]; rfl))
        have hnum := hnumb
        rw [hb] at hnum
        clear HT hb hnumb
        rw [tokW_eq]
        go_wp2_with (go_at_call 36; refine (hnum _).mono ?_; rintro e w1 ⟨⟨z, rfl, hz⟩, rfl⟩)
        refine bodyPost_ret (v := .tuple #[tokV 0 0 0 0, .int .i64 2]) (by rw [results_ct rfl]; go_simp; rfl) rfl ?_
        exact ⟨.inl ⟨2, HT2.out, rfl⟩, ((Below.refl _ _).alloc (Nat.le_refl _) _).alloc (by simp) _⟩

set_option maxHeartbeats 2000000 in
theorem tokenRS_any (s : ByteArray) (i : Nat) (w : World) (hs : s.size ≤ 1000000) (hi : i < s.size) (hl : isLet s[i] = false) (hd : isDgt s[i] = false) :
    Calls Try.prog 24 #[.string s, .int .i64 (i : Int)] w fun e w' => TokSays s i e ∧ Below w.heap.size w w' := by
  have hlet := fun w => letterR_any s[i] w
  have hdig := fun w => digitR_any s[i] w
  rw [hl] at hlet
  rw [hd] at hdig
  have hsig := fun w => sign_any s i w hs hi
  have HT := Lib.hid (tok_sign hi hl hd)
  have hle := sign_le (s.data.toList.drop i)
  simp at hle
  generalize signF (s.data.toList.drop i) = R at *
  clear hl hd
  by_cases h0 : R = 0
  · have HT2 := Lib.hid (HT.out.trans (if_pos h0))
    subst h0
    clear HT
    go_enter Try.func24, Try.ntmps24
    go_wp2_with (first | (go_at_call 28; refine (hlet _).mono ?_; rintro e w1 ⟨rfl, rfl⟩) | (go_at_call 35; refine (hdig _).mono ?_; rintro e w1 ⟨rfl, rfl⟩) | (go_at_call 37; refine (hsig _).mono ?_; rintro e w1 ⟨rfl, rfl⟩))
    refine bodyPost_ret (v := .tuple #[tokV 0 0 0 0, .int .i64 4]) (by rw [results_ct rfl]; go_simp; rfl) rfl ?_
    exact ⟨.inl ⟨4, HT2.out, rfl⟩, ((Below.refl _ _).alloc (Nat.le_refl _) _).alloc (by simp) _⟩
  · have HT2 := Lib.hid (HT.out.trans (if_neg h0))
    have x0 : 0 < (R : Int) := by omega
    clear HT
    go_enter Try.func24, Try.ntmps24
    go_wp2_with (first | (go_at_call 28; refine (hlet _).mono ?_; rintro e w1 ⟨rfl, rfl⟩) | (go_at_call 35; refine (hdig _).mono ?_; rintro e w1 ⟨rfl, rfl⟩) | (go_at_call 37; refine (hsig _).mono ?_; rintro e w1 ⟨rfl, rfl⟩))
    refine bodyPost_ret (v := .tuple #[tokV 3 i ((i : Int) + R) 0, .int .i64 0]) (by rw [results_ct rfl]; go_simp; rfl) rfl ?_
    exact ⟨.inr ⟨_, HT2.out, by show _ = Ending.returned (.tuple #[tokV 3 i ((i + R : Nat) : Int) 0, .int .i64 0]); rw [Int.natCast_add]⟩, ((Below.refl _ _).alloc (Nat.le_refl _) _).alloc (by simp) _⟩
theorem tokenR_any (s : ByteArray) (i : Nat) (w : World) (hs : s.size ≤ 1000000) (hi : i < s.size) :
    Calls Try.prog 24 #[.string s, .int .i64 (i : Int)] w fun e w' => TokSays s i e ∧ Below w.heap.size w w' := by
  cases hl : isLet s[i] with
  | true => exact tokenRW_any s i w hs hi hl
  | false => cases hd : isDgt s[i] with
    | true => exact tokenRN_any s i w hs hi hl hd
    | false => exact tokenRS_any s i w hs hi hl hd
end Go.Proofs.Ytebhfcjkaoldmaa
