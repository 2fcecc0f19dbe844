/- The walks of TypesFind and TypesKeepWithABound. -/
import Derived.Test.YtckofngclgkajaaTypAwake
namespace Go.Proofs.Ytckofngclgkajaa
set_option maxRecDepth 100000
open Go.RowKit

set_option maxHeartbeats 4000000 in
theorem typesFind_walk (W : World) (a : Option Addr) (c : Nat) (xs : List (Int × Int)) (hX : LinksAt W a xs) (hcap : xs.length ≤ c) (ka : Option Addr) (kc : Nat) (ks : List Int) (hK : IntsAt W ka ks) (b : Bool) :
    Calls Try.prog 3 #[.slice a xs.length c, .slice ka ks.length kc, .bool b] W fun e W' => e = .returned (.bool true) ∧ Below W.heap.size W W' := by
  have HA := Lib.hid (fun w => awake7_any w)
  have HLE := Lib.hid (fun W => lightE_any a xs.length c W)
  by_cases h250 : xs.length ≤ 250
  case neg =>
    rw [decide_eq_false h250] at HLE
    clear hX hK hcap
    generalize xs.length = n at *
    generalize ks.length = m at *
    go_enter Try.func3, Try.ntmps3
    go_wp2_with (first | (go_at_call 11; refine (HLE.out _).mono ?_; rintro e w0 ⟨rfl, rfl⟩) | (go_at_call 12; refine (HA.out _).mono ?_; rintro e w1 ⟨rfl, hb⟩))
    go_ret
    exact ⟨rfl, hb⟩
  rw [decide_eq_true h250] at HLE
  by_cases h10 : 10 < ks.length
  · have d : (10 : Int) < (ks.length : Int) := by omega
    clear hX hK h10 hcap
    generalize xs.length = n at *
    generalize ks.length = m at *
    go_enter Try.func3, Try.ntmps3
    go_wp2_with (first | (go_at_call 11; refine (HLE.out _).mono ?_; rintro e w0 ⟨rfl, rfl⟩) | (go_at_call 12; refine (HA.out _).mono ?_; rintro e w1 ⟨rfl, hb⟩))
    go_ret
    exact ⟨rfl, hb⟩
  have d : decide ((10 : Int) < (ks.length : Int)) = false := by simp; omega
  obtain ⟨k, f, hof⟩ := of_ex xs ks b
  have HP := Lib.hid (fun (w : World) (h : Below W.heap.size W w) => ofP_any a c xs ka kc ks b w (hX.below h) (hK.below h) (by omega) hcap hof)
  have HR := Lib.hid (fun (w : World) (h : Below W.heap.size W w) => ofR_any a c xs ka kc ks b w (hX.below h) (hK.below h) (by omega) hof)
  have b1 : (k == k) = true := by simp
  have b2 : (f == f) = true := by simp
  clear hX hK h10 hof h250 hcap
  generalize xs.length = n at *
  generalize ks.length = m at *
  go_enter Try.func3, Try.ntmps3
  go_wp2_with (first
    | (go_at_call 11; refine (HLE.out _).mono ?_; rintro e w0 ⟨rfl, rfl⟩)
    | (go_at_call 13; refine (HP.out _ (Below.refl _ _)).mono ?_; rintro e w1 ⟨rfl, hb1⟩)
    | (go_at_call 14; refine (HR.out _ hb1).mono ?_; rintro e w2 ⟨rfl, hb2⟩; have hB2 := hb1.trans (hb2.mono hb1.size))
    | (go_at_call 12; refine (HA.out _).mono ?_; rintro e w3 ⟨rfl, hb3⟩; have hB3 := hB2.trans (hb3.mono hB2.size)))
  go_ret
  exact ⟨rfl, hB3⟩
theorem kind_zero {xs : List (Int × Int)} {ks : List Int} {k f j g : Int} (h1 : OfSays xs ks false k f) (h2 : OfSays xs ks true j g) : (f = 0 ∧ g = 0 ∧ j = k) ∨ (f ≠ 0 ∧ k = 0 ∧ (f = 6 ∨ f = g)) := by
  rcases h1 with ⟨h, rfl, rfl⟩ | ⟨h, x, hx, hw, ha, rfl, rfl⟩
  · rcases h2 with ⟨_, _, rfl⟩ | ⟨h', _⟩
    · exact .inr ⟨by decide, rfl, .inr rfl⟩
    · rw [h] at h'; cases h'
  · rcases h2 with ⟨h', _⟩ | ⟨_, y, hy, hwy, _, rfl, rfl⟩
    · rw [h] at h'; cases h'
    · have e : x = y := by
        have h1 := hx.trans hy.symm
        exact flat_inj x y hw hwy h1
      subst e
      by_cases h0 : x.kind ks false = 0
      · rw [h0]
        exact .inr ⟨by decide, rfl, .inl rfl⟩
      · rw [kind_bound x h0]
        unfold outK
        rw [if_neg h0]
        exact .inl ⟨rfl, rfl, rfl⟩
set_option maxHeartbeats 4000000 in
theorem typesKeep_walk (W : World) (a : Option Addr) (c : Nat) (xs : List (Int × Int)) (hX : LinksAt W a xs) (hcap : xs.length ≤ c) (ka : Option Addr) (kc : Nat) (ks : List Int) (hK : IntsAt W ka ks) :
    Calls Try.prog 6 #[.slice a xs.length c, .slice ka ks.length kc] W fun e W' => e = .returned (.bool true) ∧ Below W.heap.size W W' := by
  have HA := Lib.hid (fun w => awake7_any w)
  have HLE := Lib.hid (fun W => lightE_any a xs.length c W)
  by_cases h250 : xs.length ≤ 250
  case neg =>
    rw [decide_eq_false h250] at HLE
    clear hX hK hcap
    generalize xs.length = n at *
    generalize ks.length = m at *
    go_enter Try.func6, Try.ntmps6
    go_wp2_with (first | (go_at_call 11; refine (HLE.out _).mono ?_; rintro e w0 ⟨rfl, rfl⟩) | (go_at_call 12; refine (HA.out _).mono ?_; rintro e w1 ⟨rfl, hb⟩))
    go_ret
    exact ⟨rfl, hb⟩
  rw [decide_eq_true h250] at HLE
  by_cases h10 : 10 < ks.length
  · have d : (10 : Int) < (ks.length : Int) := by omega
    clear hX hK h10 hcap
    generalize xs.length = n at *
    generalize ks.length = m at *
    go_enter Try.func6, Try.ntmps6
    go_wp2_with (first | (go_at_call 11; refine (HLE.out _).mono ?_; rintro e w0 ⟨rfl, rfl⟩) | (go_at_call 12; refine (HA.out _).mono ?_; rintro e w1 ⟨rfl, hb⟩))
    go_ret
    exact ⟨rfl, hb⟩
  have d : decide ((10 : Int) < (ks.length : Int)) = false := by simp; omega
  obtain ⟨k, f, hof⟩ := of_ex xs ks false
  obtain ⟨j, g, hot⟩ := of_ex xs ks true
  have HP := Lib.hid (fun (w : World) (h : Below W.heap.size W w) => ofP_any a c xs ka kc ks false w (hX.below h) (hK.below h) (by omega) hcap hof)
  have HT := Lib.hid (fun (w : World) (h : Below W.heap.size W w) => ofP_any a c xs ka kc ks true w (hX.below h) (hK.below h) (by omega) hcap hot)
  have hz := kind_zero hof hot
  clear hX hK h10 hof hot h250 hcap
  generalize xs.length = n at *
  generalize ks.length = m at *
  rcases hz with ⟨rfl, rfl, rfl⟩ | ⟨hf, rfl, h6⟩
  · have b1 : (j == j) = true := by simp
    go_enter Try.func6, Try.ntmps6
    go_wp2_with (first
      | (go_at_call 11; refine (HLE.out _).mono ?_; rintro e w0 ⟨rfl, rfl⟩)
      | (go_at_call 13; first
          | ((with_reducible refine (HT.out _ hb1).mono ?_); rintro e w2 ⟨rfl, hb2⟩; have hB2 := hb1.trans (hb2.mono hb1.size))
          | ((with_reducible refine (HP.out _ (Below.refl _ _)).mono ?_); rintro e w1 ⟨rfl, hb1⟩))
      | (go_at_call 12; refine (HA.out _).mono ?_; rintro e w3 ⟨rfl, hb3⟩; have hB3 := hB2.trans (hb3.mono hB2.size)))
    go_ret
    exact ⟨rfl, hB3⟩
  have b0 : (f == 0) = false := by simp; omega
  rcases h6 with rfl | rfl
  · go_enter Try.func6, Try.ntmps6
    go_wp2_with (first
      | (go_at_call 11; refine (HLE.out _).mono ?_; rintro e w0 ⟨rfl, rfl⟩)
      | (go_at_call 13; first
          | ((with_reducible refine (HT.out _ hb1).mono ?_); rintro e w2 ⟨rfl, hb2⟩; have hB2 := hb1.trans (hb2.mono hb1.size))
          | ((with_reducible refine (HP.out _ (Below.refl _ _)).mono ?_); rintro e w1 ⟨rfl, hb1⟩))
      | (go_at_call 12; refine (HA.out _).mono ?_; rintro e w3 ⟨rfl, hb3⟩; have hB3 := hB2.trans (hb3.mono hB2.size)))
    go_ret
    exact ⟨rfl, hB3⟩
  by_cases h66 : f = 6
  · subst h66
    go_enter Try.func6, Try.ntmps6
    go_wp2_with (first
      | (go_at_call 11; refine (HLE.out _).mono ?_; rintro e w0 ⟨rfl, rfl⟩)
      | (go_at_call 13; first
          | ((with_reducible refine (HT.out _ hb1).mono ?_); rintro e w2 ⟨rfl, hb2⟩; have hB2 := hb1.trans (hb2.mono hb1.size))
          | ((with_reducible refine (HP.out _ (Below.refl _ _)).mono ?_); rintro e w1 ⟨rfl, hb1⟩))
      | (go_at_call 12; refine (HA.out _).mono ?_; rintro e w3 ⟨rfl, hb3⟩; have hB3 := hB2.trans (hb3.mono hB2.size)))
    go_ret
    exact ⟨rfl, hB3⟩
  have b6 : (f == 6) = false := by simp; omega
  have b7 : (f == f) = true := by simp
  go_enter Try.func6, Try.ntmps6
  go_wp2_with (first
    | (go_at_call 11; refine (HLE.out _).mono ?_; rintro e w0 ⟨rfl, rfl⟩)
    | (go_at_call 13; first
        | ((with_reducible refine (HT.out _ hb1).mono ?_); rintro e w2 ⟨rfl, hb2⟩; have hB2 := hb1.trans (hb2.mono hb1.size))
        | ((with_reducible refine (HP.out _ (Below.refl _ _)).mono ?_); rintro e w1 ⟨rfl, hb1⟩))
    | (go_at_call 12; refine (HA.out _).mono ?_; rintro e w3 ⟨rfl, hb3⟩; have hB3 := hB2.trans (hb3.mono hB2.size)))
  go_ret
  exact ⟨rfl, hB3⟩
end Go.Proofs.Ytckofngclgkajaa
