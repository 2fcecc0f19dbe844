/- What Decimal of the specification of layer 2 answers. -/
import Derived.Test.YtahhndhaciijpaaDoorRefT4
namespace Go.Proofs.YtahhndhaciijpaaDoor
open Go.RowKit

theorem conv_digit (d : Nat) (hd : d < 10) (W : World) : (convert 45 9 (.slice (some ⟨W.heap.size, 0, none⟩) 1 1)).run Tryd.prog (W.alloc (.cells #[.int .u8 (48 + (d : Int))] 5)) = .ok (.string ⟨[digit d].toArray⟩) (W.alloc (.cells #[.int .u8 (48 + (d : Int))] 5)) := by
  refine run_convert_bytes_back (P := Tryd.prog) (W.alloc (.cells #[.int .u8 (48 + (d : Int))] 5)) 45 9 5 ⟨W.heap.size, 0, none⟩ 1 [digit d] Tryd.underlying45 Tryd.underlying5 Tryd.underlying9 (fun j hj => ?_)
  have hj0 : j = 0 := by simpa using hj
  subst hj0
  rw [add_none, World.cell?_alloc_new]
  simp [digit_nat hd]
theorem ret_str {a b : Bytes} (h : a = b) : Ending.returned (.string ⟨a.toArray⟩) = .returned (.string ⟨b.toArray⟩) := by rw [h]
theorem dec_le {n : Nat} (h : n < 1000000) : (decB n).length ≤ 6 := (dec_ok h).2.1

set_option maxHeartbeats 1000000 in
theorem decimal_any (n : Nat) (w : World) (hn : n < 1000000) :
    Calls Tryd.prog 27 #[.int .i64 (n : Int)] w fun e w' => e = .returned (.string ⟨(decB n).toArray⟩) ∧ Below w.heap.size w w' := by
  have hc1 := conv_digit (n % 10) (by omega)
  rw [show ((n % 10 : Nat) : Int) = (n : Int) % 10 from by omega] at hc1
  have hle := dec_le hn
  go_enter Tryd.func27, Tryd.ntmps27
  go_wp2
  clear hc1
  go_loopw [0, 3] (fun t q wr => ∃ (v : Nat) (acc : Bytes), v ≤ n ∧ t = .int .i64 v ∧ q = .string ⟨acc.toArray⟩ ∧ acc.length ≤ 6 ∧ (v < 10 → decB n = acc) ∧ (10 ≤ v → decB n = decB (v / 10) ++ acc) ∧ Below w.heap.size w wr) (fun t _ _ => (intOf t).toNat)
  case atStart =>
    refine ⟨n, [digit (n % 10)], Nat.le_refl _, rfl, rfl, by simp, fun h => ?_, fun h => dec_big h, (Below.refl _ _).alloc (Nat.le_refl _) _⟩
    rw [dec_small h, Nat.mod_eq_of_lt h]
  case round =>
    obtain ⟨v, acc, hv, rfl, rfl, ha, h1, h2, hbel⟩ := hrel
    have H1 := Lib.hid h1
    have H2 := Lib.hid h2
    clear h1 h2
    have hsz := hbel.size
    by_cases hlt : 10 ≤ v
    · have hc2 := conv_digit (v / 10 % 10) (by omega)
      rw [show ((v / 10 % 10 : Nat) : Int) = (v : Int) / 10 % 10 from by omega] at hc2
      have h6 : acc.length + 1 ≤ 6 := by
        have h3 := H2.out hlt
        have h4 := List.length_pos_iff.2 (dec_ne (v / 10))
        rw [h3, List.length_append] at hle
        omega
      have hN1 : Hid (v / 10 < 10 → decB n = digit (v / 10 % 10) :: acc) := Lib.hid (fun h => by rw [H2.out hlt, dec_small h, Nat.mod_eq_of_lt h]; rfl)
      have hN2 : Hid (10 ≤ v / 10 → decB n = decB (v / 10 / 10) ++ digit (v / 10 % 10) :: acc) := Lib.hid (fun h => by rw [H2.out hlt, dec_big h]; simp)
      have hadd := fun W => run_string_add_lists (P := Tryd.prog) W [digit (v / 10 % 10)] acc (by simp) (by omega)
      go_wp2
      go_roundw
      case rel => exact ⟨v / 10, digit (v / 10 % 10) :: acc, by omega, by go_num, by simp, by simp; omega, hN1.out, hN2.out, hbel.alloc hsz _⟩
      case measure => simp [intOf]; omega
    · have HE := Lib.hid (H1.out (by omega))
      go_wp2
      go_ret
      exact ⟨ret_str HE.out.symm, hbel⟩
end Go.Proofs.YtahhndhaciijpaaDoor
