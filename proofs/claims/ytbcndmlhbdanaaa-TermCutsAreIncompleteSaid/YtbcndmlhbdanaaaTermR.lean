/- What Arity, Aggregate and End of the specification of layer 5 answer. -/
import Derived.Test.YtbcndmlhbdanaaaTermMath
namespace Go.Proofs.Ytbcndmlhbdanaaa
open Go.RowKit

set_option linter.unusedSimpArgs false in
theorem arityR_any (op : Int) (w : World) : Calls Try.prog 13 #[.int .i64 op] w fun e w' => e = .returned (.int .i64 (arF op)) ∧ w' = w := by
  by_cases h1 : 1 ≤ op
  all_goals by_cases h2 : op ≤ 17
  all_goals by_cases h3 : 18 ≤ op
  all_goals by_cases h4 : op ≤ 29
  all_goals by_cases h5 : 30 ≤ op
  all_goals by_cases h6 : op ≤ 42
  all_goals by_cases h7 : op = 43
  all_goals first
    | omega
    | (have h9 : arF op = arF op := rfl
       conv at h9 => rhs; unfold arF
       simp only [h1, h2, h3, h4, h5, h6, h7, and_true, true_and, and_false, false_and, if_true, if_false] at h9
       go_enter Try.func13, Try.ntmps13
       go_wp2
       go_ret
       exact ⟨rfl, rfl⟩)
theorem aggR_any (op : Int) (w : World) : Calls Try.prog 30 #[.int .i64 op] w fun e w' => e = .returned (.bool (aggF op)) ∧ w' = w := by
  unfold aggF
  by_cases h1 : 20 ≤ op
  all_goals by_cases h2 : op ≤ 29
  all_goals first
    | omega
    | (go_enter Try.func30, Try.ntmps30
       go_wp2
       go_ret
       exact ⟨ret_bool (by rw [Bool.eq_iff_iff] <;> simp <;> omega), rfl⟩)

set_option maxHeartbeats 1000000 in
theorem endR_any (a : Option Addr) (c : Nat) (xs : List (Int × Int)) (p : Int) (w : World) (hX : LinksAt w a xs) (hn : xs.length ≤ 1000000) :
    Calls Try.prog 15 #[.slice a xs.length c, .int .i64 p] w fun e w' => e = .returned (.int .i64 (endF xs p)) ∧ Below w.heap.size w w' := by
  by_cases h0 : 0 ≤ p
  case neg =>
    have he : endF xs p = -1 := endF_out (by omega)
    generalize endF xs p = z at he ⊢
    subst he
    generalize xs.length = m
    clear hX hn
    go_enter Try.func15, Try.ntmps15
    go_wp2
    go_ret
    exact ⟨rfl, by first | exact Below.refl _ _ | exact belDraws (Below.refl _ _) _⟩
  obtain ⟨q, rfl⟩ : ∃ q : Nat, p = q := ⟨p.toNat, by omega⟩
  by_cases h1 : q < xs.length
  case neg =>
    have he : endF xs q = -1 := endF_out (by omega)
    rw [he]
    clear he hX hn
    generalize xs.length = m at h1 ⊢
    have d1 : decide ((q : Int) ≥ m) = true := by simp; omega
    go_enter Try.func15, Try.ntmps15
    go_wp2
    go_ret
    exact ⟨rfl, by first | exact Below.refl _ _ | exact belDraws (Below.refl _ _) _⟩
  obtain ⟨b, o, rfl, hb, hc⟩ := hX.row (by omega)
  have HC := Lib.hid hc
  have hst := Amid.start (xs := xs) (p := q) (Nat.le_of_lt h1)
  have HSt := Lib.hid hst
  obtain ⟨m, hm⟩ : ∃ m, m = xs.length := ⟨_, rfl⟩
  have HM := Lib.hid hm
  rw [← hm] at h1 hn ⊢
  clear hc hst hX hm
  have d1 : decide ((q : Int) ≥ m) = false := by simp; omega
  have d2 : decide (m ≤ q) = false := by simp; omega
  have d3 : decide ((q : Int) < 0) = false := by simp
  go_enter Try.func15, Try.ntmps15
  go_wp2
  go_loopw [5, 6] (fun s t wr => ∃ i v : Nat, s = .int .i64 ((v : Int) + 1) ∧ t = .int .i64 i ∧ v ≤ 2 * i ∧ Amid xs q i v ∧ Below w.heap.size w wr) (fun _ t _ => m - (intOf t).toNat)
  case atStart => exact ⟨q, 0, rfl, rfl, by omega, HSt.out, by first | exact Below.refl _ _ | exact belDraws (Below.refl _ _) _⟩
  case round =>
    obtain ⟨i, v, rfl, rfl, hv, hA, hbr⟩ := hrel
    have HA := Lib.hid hA
    have HBr := Lib.hid hbr
    have hi := hA.2.1
    rw [← HM.out] at hi
    clear hA hbr
    by_cases hlt : i < m
    · have hxl : i < xs.length := by rw [← HM.out]; exact hlt
      have c0 := (HBr.out.cell (p := ⟨b, o + i * 2, none⟩) hb).trans (HC.out i hxl).1
      have hak := arF_le (toA xs i)
      have HN : Hid (∀ n : Nat, 0 ≤ arF (toA xs i) → (n : Int) + 1 = v + arF (toA xs i) → Amid xs q (i + 1) n) := Lib.hid (fun n => HA.out.next (v := n) hxl)
      have HB := Lib.hid (HA.out.bad hxl)
      have HF : Hid (v = 0 → arF (toA xs i) = 0 → endF xs q = (i + 1 : Nat)) := Lib.hid (fun h0 ha => by subst h0; exact HA.out.found hxl ha)
      generalize toA xs i = op at c0 hak HN HB HF
      have hi0 : (0 : Int) ≤ i := by omega
      have hi1 : (i : Int) < m := by omega
      obtain ⟨k, hk⟩ : ∃ k, arF op = k := ⟨_, rfl⟩
      rw [hk] at hak HN HB HF
      have HK := Lib.hid hk
      clear hk
      by_cases hk0 : 0 ≤ k
      · obtain ⟨n, rfl⟩ : ∃ n : Nat, k = n := ⟨k.toNat, by omega⟩
        have n0 : decide ((n : Int) < 0) = false := by simp
        by_cases hz : v = 0 ∧ n = 0
        · obtain ⟨rfl, rfl⟩ := hz
          have he := HF.out rfl rfl
          clear HN HB HF HSt
          go_wp2_with (go_at_call 13; refine (arityR_any op _).mono ?_; rintro e w1 ⟨rfl, rfl⟩; rw [HK.out])
          go_ret
          exact ⟨ret_int (by rw [he]; simp), by first | exact HBr.out | exact belDraws HBr.out _⟩
        · have hA2 := HN.out (v + n - 1) (by omega) (by omega)
          have hz2 : ((v : Int) + 1 + ((n : Int) - 1) == 0) = false := by rw [beq_eq_false_iff_ne]; omega
          have hz3 : (v : Int) + 1 + ((n : Int) - 1) = ((v + n - 1 : Nat) : Int) + 1 := by omega
          clear HN HB HF HSt
          go_wp2_with (go_at_call 13; refine (arityR_any op _).mono ?_; rintro e w1 ⟨rfl, rfl⟩; rw [HK.out])
          go_roundw
          case rel =>
            exact ⟨i + 1, v + n - 1, rfl, by go_num, by omega, hA2, by first | exact HBr.out | exact belDraws HBr.out _⟩
          case measure => simp [intOf]; omega
      · have he := HB.out (by omega)
        have n0 : decide (k < 0) = true := by simp; omega
        clear HN HB HF HSt
        go_wp2_with (go_at_call 13; refine (arityR_any op _).mono ?_; rintro e w1 ⟨rfl, rfl⟩; rw [HK.out])
        go_ret
        exact ⟨ret_int he.symm, by first | exact HBr.out | exact belDraws HBr.out _⟩
    · obtain rfl : i = m := by omega
      have he : endF xs q = -1 := by
        have h := HA.out
        rw [HM.out] at h
        exact h.over
      clear HSt
      go_wp2
      go_ret
      exact ⟨ret_int he.symm, by first | exact HBr.out | exact belDraws HBr.out _⟩
end Go.Proofs.Ytbcndmlhbdanaaa
