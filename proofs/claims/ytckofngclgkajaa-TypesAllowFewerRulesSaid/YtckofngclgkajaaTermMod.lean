/- What Mod of the helpers answers. -/
import Derived.Test.YtckofngclgkajaaBase
namespace Go.Proofs.Ytckofngclgkajaa
open Go.RowKit

set_option maxHeartbeats 400000 in
theorem mod_any (k : Int) (n : Nat) (w : World) (hk : I64 k) (hn : 1 ≤ n) (hn2 : n ≤ 1000000) :
    Calls Try.prog 24 #[.int .i64 k, .int .i64 n] w fun e w' => e = .returned (.int .i64 (k % n)) ∧ w = w' := by
  obtain ⟨h1, h2⟩ := hk
  have hn0 : (1 : Int) ≤ n := by omega
  have hne : ((n : Int) == 0) = false := by simp; omega
  have ht : k.tmod n < n := Int.tmod_lt_of_pos k (by omega)
  have ht2 : -(n : Int) < k.tmod n := Int.lt_tmod_of_pos k (by omega)
  by_cases h0 : 0 ≤ k
  · have e1 : 0 ≤ k % (n : Int) := Int.emod_nonneg k (by omega)
    go_enter Try.func24, Try.ntmps24
    go_wp2
    go_ret
    exact ⟨rfl, rfl⟩
  · have he : k % (n : Int) = if k.tmod n < 0 then k.tmod n + n else k.tmod n := by
      rw [Int.tmod_eq_emod]
      have e1 := Int.emod_nonneg k (b := (n : Int)) (by omega)
      have e2 := Int.emod_lt_of_pos k (b := (n : Int)) (by omega)
      by_cases hd : (n : Int) ∣ k
      · have := Int.emod_eq_zero_of_dvd hd
        simp [h0, hd]; omega
      · simp [h0, hd]; omega
    have He := Lib.hid he
    clear he
    by_cases ht0 : k.tmod n < 0
    · go_enter Try.func24, Try.ntmps24
      go_wp2
      go_ret
      exact ⟨ret_int (by rw [He.out, if_pos ht0]), rfl⟩
    · go_enter Try.func24, Try.ntmps24
      go_wp2
      go_ret
      exact ⟨ret_int (by rw [He.out, if_neg (by omega)]), rfl⟩

theorem mod_nat (k : Int) {n : Nat} (hn : 1 ≤ n) : ∃ s : Nat, k % (n : Int) = s ∧ s < n := by
  have e1 := Int.emod_nonneg k (b := (n : Int)) (by omega)
  have e2 := Int.emod_lt_of_pos k (b := (n : Int)) (by omega)
  exact ⟨(k % (n : Int)).toNat, by omega, by omega⟩
end Go.Proofs.Ytckofngclgkajaa
