/- The program's families are the specification's. -/
import Derived.Test.YtfbbkiibhdgojaaFam5
import Derived.Test.YtfbbkiibhdgojaaFam7
import Derived.Test.YtfbbkiibhdgojaaRefF1
import Derived.Test.YtfbbkiibhdgojaaRefF2
import Derived.Test.YtfbbkiibhdgojaaRefF3
import Derived.Test.YtfbbkiibhdgojaaRefF4
import Derived.Test.YtfbbkiibhdgojaaRefF6
namespace Go.Proofs.Ytfbbkiibhdgojaa
open Go.RowKit

theorem path_rows : ∀ n, n < 25 → ((List.range n).map fun k => selR (relC pathN) k n) = (List.range n).map (pathR n) := by decide
theorem star_rows : ∀ n, n < 25 → ((List.range n).map fun k => selR (relC starN) k n) = (List.range n).map (starS n) := by decide
theorem comp_rows : ∀ n, n < 25 → ((List.range n).map fun k => selR (relC complN) k n) = (List.range n).map fun k => selR compC k n := by decide
theorem grid_all : ((List.range 25).all fun a => (List.range 25).all fun b => !(decide (0 < a) && decide (a * b < 25)) || decide (((List.range (a * b)).map fun k => selR (relC (gridN a)) k (a * b)) = (List.range (a * b)).map fun k => selR (gridC a) k (a * b))) = true := by decide +kernel
theorem grid_rows (a : Nat) (ha : a < 25) (b : Nat) (hb : b < 25) (h0 : 0 < a) (h1 : a * b < 25) : ((List.range (a * b)).map fun k => selR (relC (gridN a)) k (a * b)) = (List.range (a * b)).map fun k => selR (gridC a) k (a * b) := by
  have h := List.all_eq_true.1 (List.all_eq_true.1 grid_all a (by simpa using ha)) b (by simpa using hb)
  simpa [h0, h1] using h
theorem path_eq (n : Int) : relO pathN n = pathO n := by
  unfold relO pathO
  split
  · rename_i h
    have := inB_true h
    unfold relG famG
    rw [path_rows n.toNat (by omega)]
  · rfl
theorem star_eq (n : Int) : relO starN n = starO n := by
  unfold relO starO
  split
  · rename_i h
    have := inB_true h
    unfold relG famG
    rw [star_rows n.toNat (by omega)]
  · rfl
theorem comp_eq (n : Int) : relO complN n = compO n := by
  unfold relO compO
  split
  · rename_i h
    have := inB_true h
    unfold relG compG famG
    rw [comp_rows n.toNat (by omega)]
  · rfl
theorem grid_eq (a b : Int) : gridPO a b = gridO a b := by
  unfold gridPO gridO
  by_cases h1 : inB a 1 24 = true ∧ inB b 1 24 = true
  · have ha := inB_true h1.1
    have hb := inB_true h1.2
    obtain ⟨x, rfl⟩ : ∃ x : Nat, a = x := ⟨a.toNat, by omega⟩
    obtain ⟨y, rfl⟩ : ∃ y : Nat, b = y := ⟨b.toNat, by omega⟩
    have hp : 1 ≤ x * y := Nat.mul_le_mul (show 1 ≤ x by omega) (show 1 ≤ y by omega)
    have e : (x : Int) * (y : Int) = ((x * y : Nat) : Int) := by simp
    rw [if_pos h1, e]
    unfold relO
    by_cases h2 : x * y ≤ 24
    · rw [if_pos (inB_mk (by omega)), if_pos ⟨h1.1, h1.2, by omega⟩]
      unfold relG gridG famG
      simp only [Int.toNat_natCast]
      rw [grid_rows x (by omega) y (by omega) (by omega) (by omega)]
    · rw [if_neg (by rw [inB_mkF (by omega)]; simp), if_neg (fun h => by have := h.2.2; omega)]
  · rw [if_neg h1, if_neg (fun h => h1 ⟨h.1, h.2.1⟩)]
theorem par_rel {zs : List Int} (h : parPok zs) {k u : Nat} (hk : k < zs.length) (hu : u < zs.length) : relC (parN zs) k u = parC zs k u := by
  obtain ⟨_, h0, hv⟩ := h
  have hkk := hv k
  have huu := hv u
  unfold relC parN parC
  rw [Bool.eq_iff_iff]
  simp only [Bool.and_eq_true, Bool.or_eq_true, bne_iff_ne, beq_iff_eq, decide_eq_true_eq, ne_eq]
  rcases Nat.lt_trichotomy u k with h | h | h
  · rw [Nat.max_eq_right (by omega), Nat.min_eq_left (by omega)]
    by_cases hu0 : u = 0
    · subst hu0
      omega
    · omega
  · subst h
    by_cases hu0 : u = 0
    · subst hu0
      simp
    · omega
  · rw [Nat.max_eq_left (by omega), Nat.min_eq_right (by omega)]
    by_cases hk0 : k = 0
    · subst hk0
      omega
    · omega
theorem par_eq (zs : List Int) : parPO zs = parO zs := by
  unfold parPO parO
  by_cases h : parPok zs
  · rw [if_pos h]
    unfold relO
    by_cases hl : inB zs.length 1 24 = true
    · rw [if_pos hl, if_pos ⟨hl, h.2.1, fun v h1 h2 => inB_mk (by have := h.2.2 v h1 h2; omega)⟩]
      unfold relG famG
      simp only [Int.toNat_natCast]
      congr 2
      refine List.map_congr_left fun k hk => ?_
      unfold selR
      congr 1
      refine List.filter_congr fun u hu => ?_
      exact par_rel h (by simpa using hk) (by simpa using hu)
    · rw [if_neg hl, if_neg (fun h2 => hl h2.1)]
  · rw [if_neg h, if_neg]
    intro h2
    have hl := inB_true h2.1
    exact h ⟨by omega, h2.2.1, fun v h1 h3 => by have := inB_true (h2.2.2 v h1 h3); omega⟩
end Go.Proofs.Ytfbbkiibhdgojaa
