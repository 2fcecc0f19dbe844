/- What the functions of package graph answer, second part: sound. -/
import Derived.Test.YtfbbkiibhdgojaaGraph1
namespace Go.Proofs.Ytfbbkiibhdgojaa
open Go.RowKit

set_option maxHeartbeats 1000000 in
theorem sound_any (a : Option Addr) (c : Nat) (xs : List (Int × Int)) (v n : Nat) (w : World) (hL : LinksAt w a xs) (hn : n ≤ 24) (hv : v < n) :
    Calls Try.prog 33 #[.slice a xs.length c, .int .i64 v, .int .i64 n] w fun e w' => e = .returned (.bool (linksOkB xs v n)) ∧ Below w.heap.size w w' := by
  have hlm := hL.size
  unfold maxLen at hlm
  have hv0 : (0:Int) ≤ v := by omega
  have hv1 : (v:Int) < 32 := by omega
  go_enter Try.func33, Try.ntmps33
  go_wp2
  go_loopw [7, 14] (fun s t wr => ∃ k S : Nat, k ≤ xs.length ∧ t = .int .i64 k ∧ s = .int .u32 S ∧ S < 4294967296 ∧ (∀ j, S.testBit j = true ↔ j = v ∨ ∃ i, i < k ∧ toA xs i = j) ∧ (∀ j, j < k → LinkOk xs v n j) ∧ Below w.heap.size w wr) (fun _ t _ => xs.length - (intOf t).toNat)
  case atStart => exact ⟨0, 2 ^ v, Nat.zero_le _, rfl, by rw [shl1 (by omega)], pow32 (by omega), fun j => by rw [Nat.testBit_two_pow]; simp; omega, fun j hj => absurd hj (by omega), Below.refl _ _⟩
  case round =>
    obtain ⟨k, S, hk, rfl, rfl, hS, hbits, hn2, hbel⟩ := hrel
    have Hbits := Lib.hid hbits
    have Hn := Lib.hid hn2
    have HS := Lib.hid hS
    clear hbits hn2 hS
    by_cases hlt : k < xs.length
    · obtain ⟨b, o, rfl, hb, hc⟩ := (hL.below hbel).row (by omega)
      have hck := (hc k hlt).1
      have hck2 := (hc k hlt).2
      clear hc
      by_cases g1 : toA xs k < 0
      · have Hf := Lib.hid (linksOkB_mkF (xs := xs) (v := v) (n := n) fun h => by have := (h k hlt).1; omega)
        go_wp2
        go_ret
        exact ⟨ret_bool Hf.out.symm, hbel.alloc hbel.size _⟩
      obtain ⟨d, hd⟩ : ∃ d : Nat, toA xs k = d := ⟨(toA xs k).toNat, by omega⟩
      rw [hd] at hck g1
      have Hd := Lib.hid hd
      clear hd
      by_cases g2 : d < n
      rotate_left
      · have Hf := Lib.hid (linksOkB_mkF (xs := xs) (v := v) (n := n) fun h => by have := (h k hlt).1; rw [Hd.out] at this; omega)
        go_wp2
        go_ret
        exact ⟨ret_bool Hf.out.symm, hbel.alloc hbel.size _⟩
      have g3 : (d:Int) < 32 := by omega
      cases hbit : S.testBit d with
      | true =>
        have g4 := bit_in HS.out hbit
        have Hf := Lib.hid (linksOkB_mkF (xs := xs) (v := v) (n := n) fun h => by
          rcases (Hbits.out d).1 hbit with e | ⟨i, hi, e⟩
          · exact (h k hlt).2.1 (by rw [Hd.out, e])
          · exact (h k hlt).2.2.2 i hi (by rw [Hd.out, e]))
        clear hbit
        go_wp2
        go_ret
        exact ⟨ret_bool Hf.out.symm, hbel.alloc hbel.size _⟩
      | false =>
        have g4 := bit_out HS.out hbit
        have g5 := bit_or HS.out (show d < 32 by omega)
        have Hbit := Lib.hid hbit
        clear hbit
        by_cases hw1 : wtA xs k < 1
        · have Hf := Lib.hid (linksOkB_mkF (xs := xs) (v := v) (n := n) fun h => by have := (h k hlt).2.2.1; omega)
          go_wp2
          go_ret
          exact ⟨ret_bool Hf.out.symm, hbel.alloc hbel.size _⟩
        by_cases hw2 : 15 < wtA xs k
        · have Hf := Lib.hid (linksOkB_mkF (xs := xs) (v := v) (n := n) fun h => by have := (h k hlt).2.2.1; omega)
          go_wp2
          go_ret
          exact ⟨ret_bool Hf.out.symm, hbel.alloc hbel.size _⟩
        go_wp2
        go_roundw
        case rel =>
          refine ⟨k + 1, S ||| 2 ^ d, by omega, by go_num, rfl, or_lt HS.out (pow32 (by omega)), fun j => ?_, fun j hj => ?_, hbel.alloc hbel.size _⟩
          · rw [or_bit_iff, Hbits.out j]
            constructor
            · rintro ((e | ⟨i, hi, e⟩) | e)
              · exact .inl e
              · exact .inr ⟨i, by omega, e⟩
              · exact .inr ⟨k, by omega, by rw [Hd.out, e]⟩
            · rintro (e | ⟨i, hi, e⟩)
              · exact .inl (.inl e)
              · rcases Nat.lt_or_ge i k with h | h
                · exact .inl (.inr ⟨i, h, e⟩)
                · rw [show i = k by omega, Hd.out] at e
                  exact .inr (by omega)
          · rcases Nat.lt_or_ge j k with h | h
            · exact Hn.out j h
            · rw [show j = k by omega]
              have hno : ∀ x, ¬ (S.testBit d = true ∧ x) := fun x hx => by rw [Hbit.out] at hx; cases hx.1
              refine ⟨by rw [Hd.out]; omega, fun e => ?_, by omega, fun i hi e => ?_⟩
              · exact hno True ⟨(Hbits.out d).2 (.inl (by rw [Hd.out] at e; omega)), trivial⟩
              · exact hno True ⟨(Hbits.out d).2 (.inr ⟨i, hi, by rw [e, Hd.out]⟩), trivial⟩
        case measure => simp [intOf]; omega
    · have Hf := Lib.hid (linksOkB_mk (xs := xs) (v := v) (n := n) fun j hj => Hn.out j (by omega))
      go_wp2
      go_ret
      exact ⟨ret_bool Hf.out.symm, hbel⟩
end Go.Proofs.Ytfbbkiibhdgojaa
