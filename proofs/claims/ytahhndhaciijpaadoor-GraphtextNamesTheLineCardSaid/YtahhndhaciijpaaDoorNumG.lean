/- What number and link of package graphtext answer. -/
import Derived.Test.YtahhndhaciijpaaDoorLibG
import Derived.Test.YtahhndhaciijpaaDoorShelf
import Derived.Laws.RangeAny
namespace Go.Proofs.YtahhndhaciijpaaDoor
open Go.RowKit

theorem iter_below (w : World) (s : ByteArray) (k : Nat) : Below w.heap.size w (w.iter s k) := (Below.refl _ _).alloc (Nat.le_refl _) _

set_option maxHeartbeats 2000000 in
theorem numberG_any (s : ByteArray) (w : World) :
    Calls Tryd.prog 34 #[.string s] w fun e w' => e = .returned (.tuple #[.int .i64 (numI s.data.toList), .bool (numK s.data.toList)]) ∧ Below w.heap.size w w' := by
  have hlen : s.data.toList.length = s.size := by simp
  by_cases h1 : s.size < 1
  · have Hf := Lib.hid (numI_not (l := s.data.toList) fun h => by have := h.1; omega)
    have e1 : s.toList.isEmpty = true := by
      have : s.data.toList = [] := List.length_eq_zero_iff.1 (by omega)
      rw [ByteArray.toList_eq, this]; rfl
    go_enter Tryd.func34, Tryd.ntmps34
    go_wp2
    go_ret2
    exact ⟨ret_ib ⟨Hf.out.1.symm, Hf.out.2.symm⟩, Below.refl _ _⟩
  have e1 : s.toList.isEmpty = false := by
    rw [ByteArray.toList_eq, List.isEmpty_eq_false_iff]
    intro e
    rw [e] at hlen
    simp at hlen
    omega
  by_cases h2 : 6 < s.size
  · have Hf := Lib.hid (numI_not (l := s.data.toList) fun h => by have := h.2.1; omega)
    have d2 : decide (6 < (s.size : Int)) = true := by simp; omega
    go_enter Tryd.func34, Tryd.ntmps34
    go_wp2
    go_ret2
    exact ⟨ret_ib ⟨Hf.out.1.symm, Hf.out.2.symm⟩, Below.refl _ _⟩
  have d2 : decide (6 < (s.size : Int)) = false := by simp; omega
  have h0 : 0 < s.size := by omega
  have hhead : s.data.toList.head? = some s[0] := by
    rw [List.head?_eq_getElem?]
    exact List.getElem?_eq_getElem (by simpa using h0)
  have main : (1 < s.size → s[0] ≠ 48) → Calls Tryd.prog 34 #[.string s] w fun e w' => e = .returned (.tuple #[.int .i64 (numI s.data.toList), .bool (numK s.data.toList)]) ∧ Below w.heap.size w w' := by
    intro hz
    have HZ := Lib.hid hz
    clear hz
    have Hhead := Lib.hid hhead
    clear hhead
    have Hlen := Lib.hid hlen
    clear hlen
    have hz2 : decide (1 < (s.size : Int)) = true → (((s[0].toNat : Nat) : Int) == 48) = false := fun h => by
      have h5 := HZ.out (by have := of_decide_eq_true h; omega)
      have : s[0].toNat ≠ 48 := fun e => h5 (UInt8.toNat_inj.1 e)
      simp; omega
    by_cases h3 : 1 < s.size
    all_goals
      first | (have d3 : decide (1 < (s.size : Int)) = true := by simp; omega) | (have d3 : decide (1 < (s.size : Int)) = false := by simp; omega)
      try (have d4 := hz2 d3)
      clear hz2
      go_enter Tryd.func34, Tryd.ntmps34
      go_wp2
      go_loopw [4] (fun f wr => ∃ k : Nat, k ≤ s.size ∧ wr = w.iter s k ∧ f = .int .i64 (valB (s.data.toList.take k)) ∧ ∀ b ∈ s.data.toList.take k, isDig b) (fun _ wr => s.size - wr.iterPos w.heap.size)
      case atStart => exact ⟨0, Nat.zero_le _, rfl, rfl, fun b hb => by simp at hb⟩
      case round =>
        obtain ⟨k, hk, rfl, rfl, hd⟩ := hrel
        have Hd := Lib.hid hd
        have hv := val_lt 6 (s.data.toList.take k) (by have := List.length_take_le k s.data.toList; omega) hd
        clear hd
        by_cases hlt : k < s.size
        · have HS : Hid (valB (s.data.toList.take (k + 1)) = 10 * valB (s.data.toList.take k) + (s[k].toNat - 48)) := Lib.hid (by rw [take_snoc s k hlt, val_snoc])
          have HD : Hid (isDig s[k] → ∀ b ∈ s.data.toList.take (k + 1), isDig b) := Lib.hid (fun h b hb => by
            rw [take_snoc s k hlt] at hb
            rcases List.mem_append.1 hb with hb | hb
            · exact Hd.out b hb
            · rw [List.mem_singleton.1 hb]; exact h)
          have HN : Hid (¬ isDig s[k] → ¬ NumOk s.data.toList) := Lib.hid (fun h h' => h (h'.2.2.2 _ (mem_at s k hlt)))
          have hb8 := s[k].toNat_lt
          generalize valB (s.data.toList.take k) = V at *
          by_cases hasc : s[k].toNat < 128
          · have hnx : ∀ ty, (Instr.next (.pointer (some ⟨w.heap.size, 0, none⟩)) true ty).run Tryd.prog (w.iter s k) = _ := fun ty => run_next_ascii w s k ty hlt hasc
            by_cases hlo : s[k].toNat < 48
            · have Hf := Lib.hid (numI_not (HN.out fun h => by have := h.1; omega))
              have dl : decide (((s[k].toNat : Nat) : Int) < 48) = true := by simp; omega
              go_wp2
              go_ret2
              exact ⟨ret_ib ⟨Hf.out.1.symm, Hf.out.2.symm⟩, iter_below _ _ _⟩
            by_cases hhi : 57 < s[k].toNat
            · have Hf := Lib.hid (numI_not (HN.out fun h => by have := h.2; omega))
              have dl : decide (((s[k].toNat : Nat) : Int) < 48) = false := by simp; omega
              have dh : decide (57 < ((s[k].toNat : Nat) : Int)) = true := by simp; omega
              go_wp2
              go_ret2
              exact ⟨ret_ib ⟨Hf.out.1.symm, Hf.out.2.symm⟩, iter_below _ _ _⟩
            have dl : decide (((s[k].toNat : Nat) : Int) < 48) = false := by simp; omega
            have dh : decide (57 < ((s[k].toNat : Nat) : Int)) = false := by simp; omega
            have HD2 := Lib.hid (HD.out ⟨by omega, by omega⟩)
            go_wp2
            go_roundw
            case rel => exact ⟨k + 1, by omega, rfl, by rw [HS.out]; go_num, HD2.out⟩
            case measure => simp; omega
          · have Hf := Lib.hid (numI_not (HN.out fun h => by have := h.2; omega))
            have hdec := (decode_high s k hlt (by omega)).1
            have hnx : ∀ ty, (Instr.next (.pointer (some ⟨w.heap.size, 0, none⟩)) true ty).run Tryd.prog (w.iter s k) = _ := fun ty => run_next_any w s k ty hlt
            generalize Utf8.decode s k = R at *
            have dl : decide (((R.1 : Nat) : Int) < 48) = false := by simp; omega
            have dh : decide (57 < ((R.1 : Nat) : Int)) = true := by simp; omega
            go_wp2
            go_ret2
            exact ⟨ret_ib ⟨Hf.out.1.symm, Hf.out.2.symm⟩, iter_below _ _ _⟩
        · have hall : s.data.toList.take k = s.data.toList := List.take_of_length_le (by rw [Hlen.out]; omega)
          have hnx : ∀ ty, (Instr.next (.pointer (some ⟨w.heap.size, 0, none⟩)) true ty).run Tryd.prog (w.iter s k) = _ := fun ty => run_next_end w s k ty hlt
          rw [hall] at Hd ⊢
          have Hf := Lib.hid (numI_ok (l := s.data.toList) ⟨by rw [Hlen.out]; omega, by rw [Hlen.out]; omega, fun h => by
            rw [Hhead.out]
            intro e
            exact HZ.out (by rw [Hlen.out] at h; exact h) (by simpa using e), Hd.out⟩)
          clear hall
          go_wp2
          go_ret2
          exact ⟨ret_ib ⟨Hf.out.1.symm, Hf.out.2.symm⟩, iter_below _ _ _⟩
  by_cases h3 : 1 < s.size ∧ s[0] = 48
  · have Hf := Lib.hid (numI_not (l := s.data.toList) fun h => h.2.2.1 (by omega) (by rw [hhead, h3.2]))
    have d3 : decide (1 < (s.size : Int)) = true := by simp; omega
    have d4 : (((s[0].toNat : Nat) : Int) == 48) = true := by rw [h3.2]; rfl
    clear main hhead
    go_enter Tryd.func34, Tryd.ntmps34
    go_wp2
    go_ret2
    exact ⟨ret_ib ⟨Hf.out.1.symm, Hf.out.2.symm⟩, Below.refl _ _⟩
  · exact main fun h e => h3 ⟨h, e⟩
end Go.Proofs.YtahhndhaciijpaaDoor
