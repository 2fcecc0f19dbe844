/- What Number of the specification of layer 2 answers. -/
import Derived.Test.YtahhndhaciijpaaDoorText
import Derived.Test.YtahhndhaciijpaaDoorQueue
namespace Go.Proofs.YtahhndhaciijpaaDoor
open Go.RowKit

noncomputable def numI (l : Bytes) : Int := match numB l with
  | some n => n
  | none => 0
noncomputable def numK (l : Bytes) : Bool := (numB l).isSome
theorem numI_ok {l : Bytes} (h : NumOk l) : numI l = valB l ∧ numK l = true := by unfold numI numK; rw [numB_mk h]; exact ⟨rfl, rfl⟩
theorem numI_not {l : Bytes} (h : ¬ NumOk l) : numI l = 0 ∧ numK l = false := by unfold numI numK; rw [numB_none h]; exact ⟨rfl, rfl⟩
theorem ret_ib {a c : Int} {b d : Bool} (h : a = c ∧ b = d) : Ending.returned (.tuple #[.int .i64 a, .bool b]) = .returned (.tuple #[.int .i64 c, .bool d]) := by rw [h.1, h.2]
theorem take_snoc (s : ByteArray) (k : Nat) (h : k < s.size) : s.data.toList.take (k + 1) = s.data.toList.take k ++ [s[k]] := by
  rw [List.take_succ_eq_append_getElem (by simpa using h)]; rfl
theorem mem_at (s : ByteArray) (k : Nat) (h : k < s.size) : s[k] ∈ s.data.toList := by
  have : s[k] = s.data.toList[k]'(by simpa using h) := rfl
  rw [this]
  exact List.getElem_mem _
theorem val_lt : ∀ (k : Nat) (l : Bytes), l.length ≤ k → (∀ b ∈ l, isDig b) → valB l < 10 ^ k := by
  intro k
  induction k with
  | zero =>
    intro l hl _
    have : l = [] := List.length_eq_zero_iff.1 (by omega)
    rw [this]
    simp [valB]
  | succ k ih =>
    intro l hl hd
    by_cases hne : l = []
    · rw [hne]; simp [valB]; exact Nat.pow_pos (by decide)
    · rw [← List.dropLast_concat_getLast hne, val_snoc]
      have h5 := ih l.dropLast (by simp; omega) (fun b hb => hd b ((List.dropLast_prefix l).subset hb))
      have h6 := hd _ (List.getLast_mem hne)
      unfold isDig at h6
      rw [Nat.pow_succ]
      omega

set_option maxHeartbeats 1000000 in
theorem number_any (s : ByteArray) (w : World) :
    Calls Tryd.prog 39 #[.string s] w fun e w' => e = .returned (.tuple #[.int .i64 (numI s.data.toList), .bool (numK s.data.toList)]) ∧ w' = w := by
  have hlen : s.data.toList.length = s.size := by simp
  by_cases h1 : s.size < 1
  · have Hf := Lib.hid (numI_not (l := s.data.toList) fun h => by have := h.1; omega)
    have d1 : decide ((s.size : Int) < 1) = true := by simp; omega
    go_enter Tryd.func39, Tryd.ntmps39
    go_wp2
    go_ret2
    exact ⟨ret_ib ⟨Hf.out.1.symm, Hf.out.2.symm⟩, rfl⟩
  have d1 : decide ((s.size : Int) < 1) = false := by simp; omega
  by_cases h2 : 6 < s.size
  · have Hf := Lib.hid (numI_not (l := s.data.toList) fun h => by have := h.2.1; omega)
    have d2 : decide (6 < (s.size : Int)) = true := by simp; omega
    go_enter Tryd.func39, Tryd.ntmps39
    go_wp2
    go_ret2
    exact ⟨ret_ib ⟨Hf.out.1.symm, Hf.out.2.symm⟩, rfl⟩
  have d2 : decide (6 < (s.size : Int)) = false := by simp; omega
  have h0 : 0 < s.size := by omega
  have hhead : s.data.toList.head? = some s[0] := by
    rw [List.head?_eq_getElem?]
    exact List.getElem?_eq_getElem (by simpa using h0)
  have main : (1 < s.size → s[0] ≠ 48) → Calls Tryd.prog 39 #[.string s] w fun e w' => e = .returned (.tuple #[.int .i64 (numI s.data.toList), .bool (numK s.data.toList)]) ∧ w' = w := by
    intro hz
    have HZ := Lib.hid hz
    clear hz
    have Hhead := Lib.hid hhead
    clear hhead
    have Hlen := Lib.hid hlen
    clear hlen
    have hz2 : decide (1 < (s.size : Int)) = true → (((s[0].toNat : Nat) : Int) == 48) = false := fun h => by
      have h5 := HZ.out (by have := of_decide_eq_true h; omega)
      have : s[0].toNat ≠ 48 := fun e => h5 (UInt8.toNat_inj.1 e)
      simp; omega
    by_cases h3 : 1 < s.size
    all_goals
      first | (have d3 : decide (1 < (s.size : Int)) = true := by simp; omega) | (have d3 : decide (1 < (s.size : Int)) = false := by simp; omega)
      try (have d4 := hz2 d3)
      clear hz2
      go_enter Tryd.func39, Tryd.ntmps39
      go_wp2
      go_loop [4, 5] (fun f t => ∃ k : Nat, k ≤ s.size ∧ t = .int .i64 k ∧ f = .int .i64 (valB (s.data.toList.take k)) ∧ ∀ b ∈ s.data.toList.take k, isDig b) (fun _ t => s.size - (intOf t).toNat)
      case atStart => exact ⟨0, Nat.zero_le _, rfl, rfl, fun b hb => by simp at hb⟩
      case round =>
        obtain ⟨k, hk, rfl, rfl, hd⟩ := hrel
        have Hd := Lib.hid hd
        have hv := val_lt 6 (s.data.toList.take k) (by have := List.length_take_le k s.data.toList; omega) hd
        clear hd
        by_cases hlt : k < s.size
        · have HS : Hid (valB (s.data.toList.take (k + 1)) = 10 * valB (s.data.toList.take k) + (s[k].toNat - 48)) := Lib.hid (by rw [take_snoc s k hlt, val_snoc])
          have HD : Hid (isDig s[k] → ∀ b ∈ s.data.toList.take (k + 1), isDig b) := Lib.hid (fun h b hb => by
            rw [take_snoc s k hlt] at hb
            rcases List.mem_append.1 hb with hb | hb
            · exact Hd.out b hb
            · rw [List.mem_singleton.1 hb]; exact h)
          have HN : Hid (¬ isDig s[k] → ¬ NumOk s.data.toList) := Lib.hid (fun h h' => h (h'.2.2.2 _ (mem_at s k hlt)))
          have hb8 := s[k].toNat_lt
          generalize valB (s.data.toList.take k) = V at *
          by_cases hlo : s[k].toNat < 48
          · have Hf := Lib.hid (numI_not (HN.out fun h => by have := h.1; omega))
            have dl : decide (((s[k].toNat : Nat) : Int) < 48) = true := by simp; omega
            go_wp2
            go_ret2
            exact ⟨ret_ib ⟨Hf.out.1.symm, Hf.out.2.symm⟩, rfl⟩
          by_cases hhi : 57 < s[k].toNat
          · have Hf := Lib.hid (numI_not (HN.out fun h => by have := h.2; omega))
            have dl : decide (((s[k].toNat : Nat) : Int) < 48) = false := by simp; omega
            have dh : decide (57 < ((s[k].toNat : Nat) : Int)) = true := by simp; omega
            go_wp2
            go_ret2
            exact ⟨ret_ib ⟨Hf.out.1.symm, Hf.out.2.symm⟩, rfl⟩
          have dl : decide (((s[k].toNat : Nat) : Int) < 48) = false := by simp; omega
          have dh : decide (57 < ((s[k].toNat : Nat) : Int)) = false := by simp; omega
          have HD2 := Lib.hid (HD.out ⟨by omega, by omega⟩)
          go_wp2
          go_round
          case rel => exact ⟨k + 1, by omega, by go_num, by rw [HS.out]; go_num, HD2.out⟩
          case measure => simp [intOf]; omega
        · have hall : s.data.toList.take k = s.data.toList := List.take_of_length_le (by rw [Hlen.out]; omega)
          rw [hall] at Hd ⊢
          have Hf := Lib.hid (numI_ok (l := s.data.toList) ⟨by rw [Hlen.out]; omega, by rw [Hlen.out]; omega, fun h => by
            rw [Hhead.out]
            intro e
            exact HZ.out (by rw [Hlen.out] at h; exact h) (by simpa using e), Hd.out⟩)
          go_wp2
          go_ret2
          exact ⟨ret_ib ⟨Hf.out.1.symm, Hf.out.2.symm⟩, rfl⟩
  by_cases h3 : 1 < s.size ∧ s[0] = 48
  · have Hf := Lib.hid (numI_not (l := s.data.toList) fun h => h.2.2.1 (by omega) (by rw [hhead, h3.2]))
    have d3 : decide (1 < (s.size : Int)) = true := by simp; omega
    have d4 : (((s[0].toNat : Nat) : Int) == 48) = true := by rw [h3.2]; rfl
    clear main hhead
    go_enter Tryd.func39, Tryd.ntmps39
    go_wp2
    go_ret2
    exact ⟨ret_ib ⟨Hf.out.1.symm, Hf.out.2.symm⟩, rfl⟩
  · exact main fun h e => h3 ⟨h, e⟩
end Go.Proofs.YtahhndhaciijpaaDoor
