/- What Operand of the specification of layer 5 answers. -/
import Derived.Test.YtbcndmlhbdanaaaTermR2
namespace Go.Proofs.Ytbcndmlhbdanaaa
open Go.RowKit

set_option maxHeartbeats 1000000 in
theorem operandR_any (a : Option Addr) (c : Nat) (xs : List (Int × Int)) (p k : Int) (w : World) (hX : LinksAt w a xs) (hn : xs.length ≤ 1000000) :
    Calls Try.prog 17 #[.slice a xs.length c, .int .i64 p, .int .i64 k] w fun e w' => e = .returned (.int .i64 (opdF xs p k)) ∧ Below w.heap.size w w' := by
  have HE : Hid (∀ (W : World) (q : Int), Below w.heap.size w W → Calls Try.prog 15 #[.slice a xs.length c, .int .i64 q] W fun e w' => e = .returned (.int .i64 (endF xs q)) ∧ Below W.heap.size W w') := Lib.hid (fun W q hb => endR_any a c xs q W (hX.below hb) hn)
  have HX := Lib.hid hX
  obtain ⟨m, hm⟩ : ∃ m, m = xs.length := ⟨_, rfl⟩
  have HM := Lib.hid hm
  rw [← hm] at HE hn ⊢
  clear hm hX
  by_cases he : endF xs p < 0
  · have hf : opdF xs p k = -1 := by unfold opdF; rw [if_pos (.inl he)]
    have d0 : decide (endF xs p < 0) = true := by simpa using he
    generalize opdF xs p k = z at hf ⊢
    subst hf
    have HEp := HE.out w p (Below.refl _ _)
    generalize endF xs p = y at HEp d0
    clear HE he
    have HEp := Lib.hid HEp
    go_enter Try.func17, Try.ntmps17
    go_wp2_with (go_at_call 15; refine HEp.out.mono ?_; rintro e w1 ⟨rfl, hb1⟩)
    go_ret
    exact ⟨rfl, hb1⟩
  obtain ⟨hp0, hp1⟩ := endF_in he
  rw [← HM.out] at hp1
  obtain ⟨q, rfl⟩ : ∃ q : Nat, p = q := ⟨p.toNat, by omega⟩
  have d0 : decide (endF xs q < 0) = false := by simpa using he
  have HEp := Lib.hid (HE.out w q (Below.refl _ _))
  by_cases hk : 0 ≤ k
  case neg =>
    have hf : opdF xs q k = -1 := by unfold opdF; rw [if_pos (.inr (.inl (by omega)))]
    generalize opdF xs q k = z at hf ⊢
    subst hf
    have d1 : decide (k < 0) = true := by simp; omega
    generalize endF xs q = y at HEp d0
    clear HE he
    go_enter Try.func17, Try.ntmps17
    go_wp2_with (go_at_call 15; refine HEp.out.mono ?_; rintro e w1 ⟨rfl, hb1⟩)
    go_ret
    exact ⟨rfl, hb1⟩
  obtain ⟨b, o, rfl, hb, hc⟩ := HX.out.row (by rw [← HM.out]; omega)
  have hcq := (hc q (by rw [← HM.out]; omega)).1
  have HCq := Lib.hid hcq
  have hak := arF_le (toA xs q)
  have hop : opdF xs q k = if arF (toA xs q) ≤ k then -1 else placeF xs q k.toNat := by
    unfold opdF
    rw [Int.toNat_natCast]
    by_cases h : arF (toA xs q) ≤ k
    · rw [if_pos (.inr (.inr h)), if_pos h]
    · rw [if_neg (by omega), if_neg h]
  have hpl := fun j => placeF_le (xs := xs) (p := q) (by rw [← HM.out]; omega) j
  have HPl := Lib.hid hpl
  have d1 : decide (k < 0) = false := by simp; omega
  have hi1 : (q : Int) < m := by omega
  clear hc hcq hpl
  generalize opdF xs q k = z at hop ⊢
  have HOp := Lib.hid hop
  generalize toA xs q = op at HCq hak HOp
  obtain ⟨r, hr⟩ : ∃ r, arF op = r := ⟨_, rfl⟩
  have HR := Lib.hid hr
  rw [hr] at HOp hak
  clear hop hr
  by_cases hkr : r ≤ k
  · have d2 : decide (k ≥ r) = true := by simpa using hkr
    have hz : z = -1 := by rw [HOp.out, if_pos hkr]
    subst hz
    generalize endF xs q = y at HEp d0
    clear HE he HOp
    go_enter Try.func17, Try.ntmps17
    go_wp2_with (first | (go_at_call 15; refine HEp.out.mono ?_; rintro e w1 ⟨rfl, hb1⟩; have c1 := (hb1.cell (p := ⟨b, o + q * 2, none⟩) hb).trans HCq.out) | (go_at_call 13; refine (arityR_any op _).mono ?_; rintro e w2 ⟨rfl, rfl⟩; rw [HR.out]))
    go_ret
    exact ⟨rfl, hb1⟩
  · have d2 : decide (k ≥ r) = false := by simp; omega
    have hz : z = placeF xs q k.toNat := by rw [HOp.out, if_neg hkr]
    obtain ⟨n, rfl⟩ : ∃ n : Nat, k = n := ⟨k.toNat, by omega⟩
    rw [Int.toNat_natCast] at hz
    have HZ := Lib.hid hz
    clear hz HOp
    generalize endF xs q = y at HEp d0
    clear he
    go_enter Try.func17, Try.ntmps17
    go_wp2_with (first | (go_at_call 15; refine HEp.out.mono ?_; rintro e w1 ⟨rfl, hb1⟩; have c1 := (hb1.cell (p := ⟨b, o + q * 2, none⟩) hb).trans HCq.out) | (go_at_call 13; refine (arityR_any op _).mono ?_; rintro e w2 ⟨rfl, rfl⟩; rw [HR.out]))
    have HB1 := Lib.hid hb1
    clear hb1 c1
    go_loopw [7, 8] (fun s t wr => ∃ i : Nat, t = .int .i64 i ∧ i ≤ n ∧ s = .int .i64 (placeF xs q i) ∧ Below w.heap.size w wr) (fun _ t _ => n - (intOf t).toNat)
    case atStart => exact ⟨0, rfl, Nat.zero_le _, rfl, by first | exact HB1.out | exact belDraws HB1.out _⟩
    case round =>
      obtain ⟨i, rfl, hi, rfl, hbr⟩ := hrel
      have HBr := Lib.hid hbr
      clear hbr
      by_cases hlt : i < n
      · have hs : placeF xs q (i + 1) = endF xs (placeF xs q i) := rfl
        have HS := Lib.hid hs
        have HEi := Lib.hid (HE.out wr (placeF xs q i) HBr.out)
        clear hs
        go_wp2_with (go_at_call 15; refine HEi.out.mono ?_; rintro e w3 ⟨rfl, hb3⟩)
        have hb4 := HBr.out.trans (hb3.mono HBr.out.size)
        go_roundw
        case rel => exact ⟨i + 1, by go_num, by omega, by rw [HS.out], hb4⟩
        case measure => simp [intOf]; omega
      · obtain rfl : i = n := by omega
        have hz := HZ.out
        generalize placeF xs q i = y2 at hz ⊢
        subst hz
        go_wp2
        go_ret
        exact ⟨rfl, by first | exact HBr.out | exact belDraws HBr.out _⟩
end Go.Proofs.Ytbcndmlhbdanaaa
