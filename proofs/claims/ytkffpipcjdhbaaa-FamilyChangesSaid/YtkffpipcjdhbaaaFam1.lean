/- What size and the relations of package family answer. -/
import Derived.Test.YtkffpipcjdhbaaaRefF0
import Derived.Test.YtkffpipcjdhbaaaKeep2
import Derived.Shelf.Abstract
namespace Go.Proofs.Ytkffpipcjdhbaaa
open Go.RowKit

theorem fsize_any (n : Int) (w : World) :
    Calls Try.prog 48 #[.int .i64 n] w fun e w' => e = .returned (.bool (inB n 1 24)) ∧ w = w' := by
  by_cases h1 : 1 ≤ n
  all_goals by_cases h2 : n ≤ 24
  all_goals
    go_enter Try.func48, Try.ntmps48
    go_wp2
    go_ret
    exact ⟨by simp [inB, h1, h2], rfl⟩

/-! ### The relations -/
def pathN (a b : Nat) : Bool := b == a + 1
def starN (a _b : Nat) : Bool := a == 0
def complN (_a _b : Nat) : Bool := true
def ringN (n a b : Nat) : Bool := b == a + 1 || b == a + n - 1
def gridN (w a b : Nat) : Bool := (b == a + 1 && a / w == b / w) || b == a + w


theorem pathC_any (a b : Nat) (hab : a < b) (hb : b < 24) (w : World) :
    Calls Try.prog 45 #[.int .i64 a, .int .i64 b] w fun e w' => e = .returned (.bool (pathN a b)) ∧ Below w.heap.size w w' := by
  go_enter Try.func45, Try.ntmps45
  go_wp2
  go_ret
  refine ⟨ret_bool ?_, Below.refl _ _⟩
  unfold pathN
  rw [Bool.eq_iff_iff]
  simp
  omega
theorem starC_any (a b : Nat) (w : World) :
    Calls Try.prog 46 #[.int .i64 a, .int .i64 b] w fun e w' => e = .returned (.bool (starN a b)) ∧ Below w.heap.size w w' := by
  go_enter Try.func46, Try.ntmps46
  go_wp2
  go_ret
  refine ⟨ret_bool ?_, Below.refl _ _⟩
  unfold starN
  rw [Bool.eq_iff_iff]
  simp
theorem complC_any (a b : Nat) (w : World) :
    Calls Try.prog 47 #[.int .i64 a, .int .i64 b] w fun e w' => e = .returned (.bool (complN a b)) ∧ Below w.heap.size w w' := by
  go_enter Try.func47, Try.ntmps47
  go_wp2
  go_ret
  exact ⟨rfl, Below.refl _ _⟩
theorem ringC_any (n a b : Nat) (hn : n ≤ 24) (hab : a < b) (hb : b < n) (cb : Nat) (w : World) (hc : w.cell? ⟨cb, 0, none⟩ = some (.int .i64 n)) :
    Calls Try.prog 41 #[.int .i64 a, .int .i64 b, .pointer (some ⟨cb, 0, none⟩)] w fun e w' => e = .returned (.bool (ringN n a b)) ∧ Below w.heap.size w w' := by
  by_cases h1 : (b : Int) = a + 1
  · go_enter Try.func41, Try.ntmps41
    go_wp2
    go_ret
    refine ⟨ret_bool ?_, Below.refl _ _⟩
    unfold ringN
    rw [Bool.eq_iff_iff]
    simp
    omega
  · have h2 : ((b : Int) == a + 1) = false := by simpa using h1
    have H1 := Lib.hid h1
    clear h1
    go_enter Try.func41, Try.ntmps41
    go_wp2
    go_ret
    refine ⟨ret_bool ?_, Below.refl _ _⟩
    have h1 := H1.out
    unfold ringN
    rw [Bool.eq_iff_iff]
    simp
    omega
theorem div64 (a n : Nat) (ha : a < 24) : wrap64 ((a : Int) / (n : Int)) = ((a / n : Nat) : Int) := by
  have h := Nat.div_le_self a n
  have e : (a : Int) / (n : Int) = ((a / n : Nat) : Int) := by simp
  rw [e]
  generalize a / n = q at h ⊢
  exact Go.IntWalk.wrap64_in _ ⟨by omega, by omega⟩
theorem gridC_any (n a b : Nat) (hn : n ≠ 0) (hm : n ≤ 24) (hab : a < b) (hb : b < 24) (cb : Nat) (w : World) (hc : w.cell? ⟨cb, 0, none⟩ = some (.int .i64 n)) :
    Calls Try.prog 49 #[.int .i64 a, .int .i64 b, .pointer (some ⟨cb, 0, none⟩)] w fun e w' => e = .returned (.bool (gridN n a b)) ∧ Below w.heap.size w w' := by
  have e1 : ((b : Int) == a + 1) = (b == a + 1) := by rw [Bool.eq_iff_iff]; simp; omega
  have e2 : ((b : Int) == a + n) = (b == a + n) := by rw [Bool.eq_iff_iff]; simp; omega
  have e3 : (wrap64 ((a : Int) / (n : Int)) == wrap64 ((b : Int) / (n : Int))) = (a / n == b / n) := by
    rw [div64 a n (by omega), div64 b n (by omega), Bool.eq_iff_iff]
    simp only [beq_iff_eq]
    omega
  have Hg : Hid (gridN n a b = ((b == a + 1 && a / n == b / n) || b == a + n)) := Lib.hid rfl
  generalize gridN n a b = r at Hg ⊢
  generalize (b == a + 1) = t1 at e1 Hg
  generalize (b == a + n) = t2 at e2 Hg
  generalize (a / n == b / n) = t3 at e3 Hg
  cases t1
  all_goals cases t2
  all_goals cases t3
  all_goals
    go_enter Try.func49, Try.ntmps49
    go_wp2
    go_quiet (fail)
    go_wp2
    go_ret
    exact ⟨ret_bool (by rw [Hg.out]; rfl), belDraws (Below.refl _ _) _⟩
/-- the relation of a list of parents -/
def parN (zs : List Int) (a b : Nat) : Bool := idA zs b == a
theorem parC_any (pa : Option Addr) (pc : Nat) (zs : List Int) (a b : Nat) (hb : b < zs.length) (cb : Nat) (w : World) (hc : w.cell? ⟨cb, 0, none⟩ = some (.slice pa zs.length pc)) (hI : IntsAt w pa zs) :
    Calls Try.prog 50 #[.int .i64 a, .int .i64 b, .pointer (some ⟨cb, 0, none⟩)] w fun e w' => e = .returned (.bool (parN zs a b)) ∧ Below w.heap.size w w' := by
  have hsz := hI.size
  unfold maxLen at hsz
  obtain ⟨bl, o, rfl, hbl, hcs⟩ := hI.row (by omega)
  have h1 := hcs b hb
  clear hcs hI
  go_enter Try.func50, Try.ntmps50
  go_wp2
  go_ret
  exact ⟨ret_bool rfl, Below.refl _ _⟩

end Go.Proofs.Ytkffpipcjdhbaaa
