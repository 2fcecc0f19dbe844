/- What Of of the program's types answers. -/
import Derived.Test.YtckofngclgkajaaTypP4
import Derived.Test.YtckofngclgkajaaTermApp
namespace Go.Proofs.Ytckofngclgkajaa
set_option maxRecDepth 100000
open Go.RowKit

theorem OwnT.fits7 {B n c : Nat} {a : Option Addr} {w : World} {xs : List (Int × Int)} (h : OwnT B w (.slice a n c) xs) : xs.length ≤ c := by
  rcases h.2 with ⟨_, h0⟩ | ⟨g, cap, cur, e, _, _, h1, _⟩
  · omega
  · injection e with _ _ e
    omega
theorem of1_any (k : Int) (w : World) : Calls Try.prog 29 #[.int .i64 k] w fun e w' => e = .returned (.bool (!knownK k)) ∧ w' = w := by
  have HK := fun W => knownP_any k W
  generalize knownK k = b at *
  go_enter Try.func29, Try.ntmps29
  go_wp2_with (go_at_call 30; refine (HK _).mono ?_; rintro e w1 ⟨rfl, rfl⟩)
  go_ret
  exact ⟨rfl, rfl⟩
theorem all_idA {ks : List Int} (h : ∀ i, i < ks.length → knownK (idA ks i) = true) : ks.all knownK = true := List.all_eq_true.2 fun y hy => by
  obtain ⟨i, hi, rfl⟩ := List.mem_iff_getElem.1 hy
  have := h i hi
  unfold idA at this
  rwa [List.getD_eq_getElem?_getD, List.getElem?_eq_getElem hi] at this
theorem not_all_idA {ks : List Int} {i : Nat} (hi : i < ks.length) (h : knownK (idA ks i) = false) : ks.all knownK = false := by
  rw [Bool.eq_false_iff]
  intro ht
  have := List.all_eq_true.1 ht (idA ks i) (by unfold idA; rw [List.getD_eq_getElem?_getD, List.getElem?_eq_getElem hi]; exact List.getElem_mem hi)
  rw [h] at this
  cases this
set_option maxHeartbeats 400000 in
theorem idxK_any (ka : Option Addr) (kc : Nat) (ks : List Int) (w : World) (hK : IntsAt w ka ks) (hn : ks.length ≤ 1000) :
    Calls Try.prog 53 #[.slice ka ks.length kc, .func (Fn.func 29) #[] #[]] w fun e w' => (∃ z : Int, e = .returned (.int .i64 z) ∧ decide (z ≥ 0) = !(ks.all knownK)) ∧ w' = w := by
  have HC : Hid (∀ i, i < ks.length → ∃ g o, ka = some ⟨g, o, none⟩ ∧ w.cell? ⟨g, o + i, none⟩ = some (.int .i64 (idA ks i))) := Lib.hid (fun i hi => by
    obtain ⟨g, o, e, _, hc⟩ := hK.row (by omega)
    exact ⟨g, o, e, hc i hi⟩)
  have HF := fun k W => of1_any k W
  have HBad := Lib.hid (fun i (hi : i < ks.length) (h : knownK (idA ks i) = false) => not_all_idA hi h)
  have HOk := Lib.hid (fun (h : ∀ i, i < ks.length → knownK (idA ks i) = true) => all_idA h)
  clear hK
  generalize ks.all knownK = R at *
  generalize ks.length = m at *
  go_enter Try.func53, Try.ntmps53
  go_wp2
  go_loop [8] (fun t => ∃ k : Nat, k ≤ m ∧ t = .int .i64 k ∧ (∀ j, j < k → knownK (idA ks j) = true)) (fun t => m - (intOf t).toNat)
  case atStart => exact ⟨0, Nat.zero_le _, rfl, fun j hj => absurd hj (by omega)⟩
  case round =>
    obtain ⟨k, hk, rfl, hlow⟩ := hrel
    have HL := Lib.hid hlow
    clear hlow
    by_cases hlt : k < m
    · obtain ⟨g, o, rfl, hc⟩ := HC.out k hlt
      have hf := HF (idA ks k)
      have klt : (k : Int) < (m : Int) := by omega
      have k0 : (0 : Int) ≤ (k : Int) := by omega
      cases hq : knownK (idA ks k) with
      | false =>
        have hR := HBad.out k hlt hq
        subst hR
        rw [hq] at hf
        clear hq
        generalize idA ks k = y at *
        go_wp2_with (go_at_call 29; refine (hf _).mono ?_; rintro e w1 ⟨rfl, rfl⟩)
        go_ret
        exact ⟨⟨_, rfl, by simp⟩, rfl⟩
      | true =>
        have HL2 : Hid (∀ j, j < k + 1 → knownK (idA ks j) = true) := Lib.hid (fun j hj => by
          rcases Nat.lt_or_ge j k with h1 | h1
          · exact HL.out j h1
          · obtain rfl : j = k := by omega
            exact hq)
        rw [hq] at hf
        clear hq
        generalize hy : idA ks k = y at hf hc
        clear hy
        go_wp2_with (go_at_call 29; refine (hf _).mono ?_; rintro e w1 ⟨rfl, rfl⟩)
        go_round
        case rel => exact ⟨k + 1, by omega, by go_num, HL2.out⟩
        case measure => simp [intOf]; omega
    · obtain rfl : m = k := by omega
      have hR := HOk.out HL.out
      subst hR
      go_wp2
      go_ret
      exact ⟨⟨_, rfl, by decide⟩, rfl⟩
theorem contK_any (ka : Option Addr) (kc : Nat) (ks : List Int) (w : World) (hK : IntsAt w ka ks) (hn : ks.length ≤ 1000) :
    Calls Try.prog 28 #[.slice ka ks.length kc, .func (Fn.func 29) #[] #[]] w fun e w' => e = .returned (.bool (!(ks.all knownK))) ∧ w' = w := by
  have HI := Lib.hid (idxK_any ka kc ks w hK hn)
  generalize (!(ks.all knownK)) = b at HI ⊢
  generalize ks.length = m at HI ⊢
  clear hK hn
  go_enter Try.func28, Try.ntmps28
  go_wp2_with (go_at_call 53; refine HI.out.mono ?_; rintro e w1 ⟨⟨z, rfl, hz⟩, rfl⟩)
  go_ret
  exact ⟨by first | rfl | exact ret_bool hz, rfl⟩
set_option maxHeartbeats 2000000 in
theorem ofP_any {k f : Int} (a : Option Addr) (c : Nat) (xs : List (Int × Int)) (ka : Option Addr) (kc : Nat) (ks : List Int) (b : Bool) (w : World) (hX : LinksAt w a xs) (hK : IntsAt w ka ks) (hn : xs.length ≤ 1000) (hcap : xs.length ≤ c) (h : OfSays xs ks b k f) :
    Calls Try.prog 13 #[.slice a xs.length c, .slice ka ks.length kc, .bool b] w fun e w' => e = .returned (.tuple #[.int .i64 k, .int .i64 f]) ∧ Below w.heap.size w w' := by
  by_cases h6 : 6 < ks.length
  · rcases h with ⟨_, rfl, rfl⟩ | ⟨h, _⟩
    case inr => have := (okT_parts h).1; omega
    have d : (6 : Int) < (ks.length : Int) := by omega
    clear hX hK hn h6 hcap
    generalize ks.length = m at *
    generalize xs.length = n at *
    go_enter Try.func13, Try.ntmps13
    go_wp2
    go_ret2
    exact ⟨rfl, Below.refl _ _⟩
  have d : decide ((6 : Int) < (ks.length : Int)) = false := by simp; omega
  have HC := Lib.hid (fun W (hb : Below w.heap.size w W) => contK_any ka kc ks W (hK.below hb) (by omega))
  have HV := Lib.hid (fun W (hb : Below w.heap.size w W) => validP_any a c xs ks.length W (hX.below hb) hn (by unfold I64; omega))
  cases hk : ks.all knownK with
  | false =>
    have hno : okT xs ks = false := by unfold okT; rw [hk]; simp
    rcases h with ⟨_, rfl, rfl⟩ | ⟨h, _⟩
    case inr => rw [hno] at h; cases h
    rw [hk] at HC
    clear hX hK hn h6 hcap hno hk HV
    generalize ks.length = m at *
    generalize xs.length = n at *
    go_enter Try.func13, Try.ntmps13
    go_wp2_with (go_at_call 28; refine (HC.out _ (Below.refl _ _)).mono ?_; rintro e w1 ⟨rfl, rfl⟩)
    go_ret2
    exact ⟨rfl, Below.refl _ _⟩
  | true =>
    rw [hk] at HC
    cases hv : validE xs ks.length with
    | false =>
      have hno : okT xs ks = false := by unfold okT; rw [hv]; simp
      rcases h with ⟨_, rfl, rfl⟩ | ⟨h, _⟩
      case inr => rw [hno] at h; cases h
      rw [hv] at HV
      clear hX hK hn h6 hcap hno hk hv
      generalize ks.length = m at *
      generalize xs.length = n at *
      go_enter Try.func13, Try.ntmps13
      go_wp2_with (first
        | (go_at_call 28; refine (HC.out _ (Below.refl _ _)).mono ?_; rintro e w1 ⟨rfl, rfl⟩)
        | (go_at_call 31; refine (HV.out _ (Below.refl _ _)).mono ?_; rintro e w2 ⟨rfl, hb2⟩))
      go_ret2
      exact ⟨rfl, hb2⟩
    | true =>
      have hyes : okT xs ks = true := by unfold okT; rw [hv, hk, decide_eq_true (by omega : ks.length ≤ 6)]; rfl
      rcases h with ⟨h, _⟩ | ⟨_, x, hx, hw, ha, hkk, hff⟩
      · rw [hyes] at h; cases h
      rw [hv] at HV
      have HT := Lib.hid (fun W (hb : Below w.heap.size w W) => typeOfP_any a c xs ka kc ks b W (hX.below hb) (hK.below hb) hn hcap x hx hw ha)
      clear hX hK hn h6 hcap hyes hk hv ha hx hw
      generalize x.kind ks b = z at *
      generalize ks.length = m at *
      generalize xs.length = n at *
      by_cases h0 : z = 0
      · subst h0
        rw [show outK 0 = (0, 6) from rfl] at hkk hff
        subst hkk hff
        go_enter Try.func13, Try.ntmps13
        go_wp2_with (first
          | (go_at_call 28; refine (HC.out _ (Below.refl _ _)).mono ?_; rintro e w1 ⟨rfl, rfl⟩)
          | (go_at_call 31; refine (HV.out _ (Below.refl _ _)).mono ?_; rintro e w2 ⟨rfl, hb2⟩)
          | (go_at_call 32; refine (HT.out _ hb2).mono ?_; rintro e w3 ⟨rfl, hb3⟩; have hB3 := hb2.trans (hb3.mono hb2.size)))
        go_ret2
        exact ⟨rfl, hB3⟩
      · rw [show outK z = (z, 0) from if_neg h0] at hkk hff
        have z1 : (z == 0) = false := by simpa using h0
        subst hkk hff
        go_enter Try.func13, Try.ntmps13
        go_wp2_with (first
          | (go_at_call 28; refine (HC.out _ (Below.refl _ _)).mono ?_; rintro e w1 ⟨rfl, rfl⟩)
          | (go_at_call 31; refine (HV.out _ (Below.refl _ _)).mono ?_; rintro e w2 ⟨rfl, hb2⟩)
          | (go_at_call 32; refine (HT.out _ hb2).mono ?_; rintro e w3 ⟨rfl, hb3⟩; have hB3 := hb2.trans (hb3.mono hb2.size)))
        go_ret2
        exact ⟨rfl, hB3⟩
end Go.Proofs.Ytckofngclgkajaa
