/- The walk of TypesIgnoreNumbers. -/
import Derived.Test.YtckofngclgkajaaTypW1
import Derived.Test.YtckofngclgkajaaTypMath3
namespace Go.Proofs.Ytckofngclgkajaa
set_option maxRecDepth 100000
open Go.RowKit

set_option maxHeartbeats 400000 in
theorem modBig_any (k : Int) (w : World) (hk : I64 k) :
    Calls Try.prog 24 #[.int .i64 k, .int .i64 1073741825] w fun e w' => e = .returned (.int .i64 (k % 1073741825)) ∧ w = w' := by
  obtain ⟨h1, h2⟩ := hk
  have hne : ((1073741825 : Int) == 0) = false := rfl
  have ht : k.tmod 1073741825 < 1073741825 := Int.tmod_lt_of_pos k (by omega)
  have ht2 : -(1073741825 : Int) < k.tmod 1073741825 := Int.lt_tmod_of_pos k (by omega)
  by_cases h0 : 0 ≤ k
  · have e1 : 0 ≤ k % (1073741825 : Int) := Int.emod_nonneg k (by omega)
    go_enter Try.func24, Try.ntmps24
    go_wp2
    go_ret
    exact ⟨rfl, rfl⟩
  · have he : k % (1073741825 : Int) = if k.tmod 1073741825 < 0 then k.tmod 1073741825 + 1073741825 else k.tmod 1073741825 := by
      rw [Int.tmod_eq_emod]
      have e1 := Int.emod_nonneg k (b := (1073741825 : Int)) (by omega)
      have e2 := Int.emod_lt_of_pos k (b := (1073741825 : Int)) (by omega)
      by_cases hd : (1073741825 : Int) ∣ k
      · have := Int.emod_eq_zero_of_dvd hd
        simp [h0, hd]; omega
      · simp [h0, hd]; omega
    have He := Lib.hid he
    clear he
    by_cases ht0 : k.tmod 1073741825 < 0
    · go_enter Try.func24, Try.ntmps24
      go_wp2
      go_ret
      exact ⟨ret_int (by rw [He.out, if_pos ht0]), rfl⟩
    · go_enter Try.func24, Try.ntmps24
      go_wp2
      go_ret
      exact ⟨ret_int (by rw [He.out, if_neg (by omega)]), rfl⟩
/-- a list whose first terms are turned -/
def turnS (F : Int × Int → Int × Int) (xs : List (Int × Int)) (q : Nat) : List (Int × Int) := (xs.take q).map F ++ xs.drop q
theorem turnS_zero (F : Int × Int → Int × Int) (xs : List (Int × Int)) : turnS F xs 0 = xs := by simp [turnS]
theorem turnS_all (F : Int × Int → Int × Int) (xs : List (Int × Int)) : turnS F xs xs.length = xs.map F := by simp [turnS]
theorem turnS_len (F : Int × Int → Int × Int) (xs : List (Int × Int)) (q : Nat) : (turnS F xs q).length = xs.length := by
  simp [turnS]
  omega
theorem turnS_get {F : Int × Int → Int × Int} {xs : List (Int × Int)} {q : Nat} (h : q < xs.length) : (turnS F xs q)[q]? = some (toA xs q, wtA xs q) := by
  unfold turnS
  rw [List.getElem?_append_right (by simp; omega), List.getElem?_drop]
  have e : q + (q - ((xs.take q).map F).length) = q := by simp; omega
  rw [e, List.getElem?_eq_getElem h]
  unfold toA wtA
  rw [List.getD_eq_getElem?_getD, List.getElem?_eq_getElem h]
  rfl
theorem turnS_at {F : Int × Int → Int × Int} {xs : List (Int × Int)} {q : Nat} (h : q < xs.length) : toA (turnS F xs q) q = toA xs q ∧ wtA (turnS F xs q) q = wtA xs q := by
  have hg := turnS_get (F := F) h
  constructor
  · show ((turnS F xs q).getD q _).1 = _
    rw [List.getD_eq_getElem?_getD, hg]
    rfl
  · show ((turnS F xs q).getD q _).2 = _
    rw [List.getD_eq_getElem?_getD, hg]
    rfl
theorem turnS_set {F : Int × Int → Int × Int} {xs : List (Int × Int)} {q : Nat} (h : q < xs.length) : (turnS F xs q).set q (F (toA xs q, wtA xs q)) = turnS F xs (q + 1) := by
  have e : xs[q] = (toA xs q, wtA xs q) := by
    unfold toA wtA
    rw [List.getD_eq_getElem?_getD, List.getElem?_eq_getElem h]
    rfl
  unfold turnS
  rw [List.set_append_right _ _ (by simp; omega), List.take_succ_eq_append_getElem h, List.map_append, List.append_assoc, List.drop_eq_getElem_cons h]
  have e2 : q - ((xs.take q).map F).length = 0 := by simp; omega
  rw [e2, List.set_cons_zero, e]
  rfl
theorem turnS_skip {F : Int × Int → Int × Int} {xs : List (Int × Int)} {q : Nat} (h : q < xs.length) (hF : F (toA xs q, wtA xs q) = (toA xs q, wtA xs q)) : turnS F xs (q + 1) = turnS F xs q := by
  rw [← turnS_set h, hF]
  apply List.ext_getElem?
  intro j
  rw [List.getElem?_set]
  split
  · rename_i hj
    subst hj
    rw [if_pos (by rw [turnS_len]; exact h), turnS_get h]
  · rfl
end Go.Proofs.Ytckofngclgkajaa
