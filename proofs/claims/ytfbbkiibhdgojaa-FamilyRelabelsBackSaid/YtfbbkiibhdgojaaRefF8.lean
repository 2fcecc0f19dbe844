/- What nodes and Permutation of the specification of layer 3 answer. -/
import Derived.Test.YtfbbkiibhdgojaaRefF7
namespace Go.Proofs.Ytfbbkiibhdgojaa
open Go.RowKit

def nodesB (n : Nat) (a b : Int) : Bool := inB a 0 ((n : Int) - 1) && inB b 0 ((n : Int) - 1) && a != b
def permAt (zs : List Int) (i : Nat) : Prop := inB (idA zs i) 0 ((zs.length : Int) - 1) = true ∧ ∀ k, k < i → idA zs k ≠ idA zs i
def permOk (zs : List Int) (n : Int) : Prop := (zs.length : Int) = n ∧ ∀ i, i < zs.length → permAt zs i
set_option maxHeartbeats 4000000 in
theorem perm_any (a : Option Addr) (c : Nat) (zs : List Int) (n : Int) (w : World) (hz : IntsAt w a zs) :
    Calls Try.prog 13 #[.slice a zs.length c, .int .i64 n] w fun e w' => (∃ b, e = .returned (.bool b) ∧ (b = true ↔ permOk zs n)) ∧ Below w.heap.size w w' := by
  have hm := hz.size
  unfold maxLen at hm
  have HZ := Lib.hid hz
  clear hz
  obtain ⟨m, hml⟩ : ∃ m, m = zs.length := ⟨_, rfl⟩
  have HML := Lib.hid hml
  rw [← hml] at hm ⊢
  clear hml
  by_cases hn : (m : Int) = n
  rotate_left
  · have hb : ((m : Int) == n) = false := by simp [hn]
    go_enter Try.func13, Try.ntmps13
    go_wp2
    go_ret
    exact ⟨⟨false, rfl, nofun, fun h => absurd (by rw [HML.out]; exact h.1) hn⟩, Below.refl _ _⟩
  · subst hn
    go_enter Try.func13, Try.ntmps13
    go_wp2
    go_loopw [5] (fun t wr => ∃ k : Nat, t = .int .i64 k ∧ k ≤ m ∧ (∀ i, i < k → permAt zs i) ∧ Below w.heap.size w wr) (fun t _ => m - (intOf t).toNat)
    case atStart => exact ⟨0, rfl, Nat.zero_le _, fun i hi => absurd hi (by omega), Below.refl _ _⟩
    case round =>
      obtain ⟨k, rfl, hk, hok, hbel⟩ := hrel
      have HOK := Lib.hid hok
      clear hok
      by_cases hlt : k < m
      · obtain ⟨b, o, e, hb, hc⟩ := HZ.out.row (by rw [← HML.out]; omega)
        subst e
        have HC := Lib.hid hc
        have pk := (hbel.cell (p := ⟨b, o + k, none⟩) hb).trans (hc k (by rw [← HML.out]; exact hlt))
        clear hc
        cases hg : inB (idA zs k) 0 ((m : Int) - 1) with
        | false =>
          go_wp2_with (go_at_call 24; refine (in_any _ _ _ _).mono ?_; rintro e w1 ⟨rfl, rfl⟩)
          go_ret
          refine ⟨⟨false, rfl, nofun, fun h => ?_⟩, hbel⟩
          have := (h.2 k (by rw [← HML.out]; exact hlt)).1
          rw [← HML.out, hg] at this
          cases this
        | true =>
          go_wp2_with (go_at_call 24; refine (in_any _ _ _ _).mono ?_; rintro e w1 ⟨rfl, rfl⟩)
          clear pk
          have HG := Lib.hid hg
          clear hg
          have HB := Lib.hid hbel
          clear hbel
          obtain ⟨wo, hwo⟩ : ∃ wo, wo = wr := ⟨_, rfl⟩
          subst hwo
          go_loopw [6] (fun t wr => ∃ j : Nat, t = .int .i64 j ∧ j ≤ k ∧ (∀ i, i < j → idA zs i ≠ idA zs k) ∧ Below w.heap.size w wr) (fun t _ => k - (intOf t).toNat)
          case atStart => exact ⟨0, rfl, Nat.zero_le _, fun i hi => absurd hi (by omega), HB.out⟩
          case round =>
            clear HB
            obtain ⟨j, rfl, hj, hno, hbel⟩ := hrel
            have HNO := Lib.hid hno
            clear hno
            have pk := (hbel.cell (p := ⟨b, o + k, none⟩) hb).trans (HC.out k (by rw [← HML.out]; exact hlt))
            have HB := Lib.hid hbel
            by_cases hjl : j < k
            · have pj := (hbel.cell (p := ⟨b, o + j, none⟩) hb).trans (HC.out j (by rw [← HML.out]; omega))
              have hjm : j < m := by omega
              clear hbel
              by_cases he : idA zs j = idA zs k
              · have hE : (idA zs j == idA zs k) = true := by simp [he]
                have HE := Lib.hid he
                clear he
                go_wp2
                go_quiet (fail)
                go_wp2
                go_ret
                exact ⟨⟨false, rfl, nofun, fun h => absurd HE.out ((h.2 k (by rw [← HML.out]; exact hlt)).2 j hjl)⟩, belDraws HB.out _⟩
              · have hE : (idA zs j == idA zs k) = false := by simp [he]
                have HE := Lib.hid he
                clear he
                go_wp2
                go_quiet (fail)
                go_wp2
                go_roundw
                case rel =>
                  refine ⟨j + 1, by go_num, hjl, fun i hi => ?_, belDraws HB.out _⟩
                  by_cases e : i = j
                  · rw [e]; exact HE.out
                  · exact HNO.out i (by omega)
                case measure => simp [intOf]; omega
            · obtain rfl : j = k := by omega
              go_wp2
              go_roundw
              case rel =>
                refine ⟨j + 1, by go_num, hlt, fun i hi => ?_, hbel⟩
                by_cases e : i = j
                · rw [e]; exact ⟨by rw [← HML.out]; exact HG.out, HNO.out⟩
                · exact HOK.out i (by omega)
              case measure => simp [intOf]; omega
      · obtain rfl : k = m := by omega
        go_wp2
        go_ret
        exact ⟨⟨true, rfl, fun _ => ⟨by rw [HML.out], fun i hi => HOK.out i (by rw [HML.out]; exact hi)⟩, fun _ => rfl⟩, hbel⟩
end Go.Proofs.Ytfbbkiibhdgojaa
