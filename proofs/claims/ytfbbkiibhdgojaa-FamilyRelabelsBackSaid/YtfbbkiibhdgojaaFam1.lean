/- What size and the relations of package family answer. -/
import Derived.Test.YtfbbkiibhdgojaaRefF0
import Derived.Test.YtfbbkiibhdgojaaKeep2
import Derived.Shelf.Abstract
namespace Go.Proofs.Ytfbbkiibhdgojaa
open Go.RowKit

theorem fsize_any (n : Int) (w : World) :
    Calls Try.prog 37 #[.int .i64 n] w fun e w' => e = .returned (.bool (inB n 1 24)) ∧ w = w' := by
  by_cases h1 : 1 ≤ n
  all_goals by_cases h2 : n ≤ 24
  all_goals
    go_enter Try.func37, Try.ntmps37
    go_wp2
    go_ret
    exact ⟨by simp [inB, h1, h2], rfl⟩

/-! ### The relations -/
def pathN (a b : Nat) : Bool := b == a + 1
def starN (a _b : Nat) : Bool := a == 0
def complN (_a _b : Nat) : Bool := true
def ringN (n a b : Nat) : Bool := b == a + 1 || b == a + n - 1
def gridN (w a b : Nat) : Bool := (b == a + 1 && a / w == b / w) || b == a + w


theorem ringC_any (n a b : Nat) (hn : n ≤ 24) (hab : a < b) (hb : b < n) (cb : Nat) (w : World) (hc : w.cell? ⟨cb, 0, none⟩ = some (.int .i64 n)) :
    Calls Try.prog 30 #[.int .i64 a, .int .i64 b, .pointer (some ⟨cb, 0, none⟩)] w fun e w' => e = .returned (.bool (ringN n a b)) ∧ Below w.heap.size w w' := by
  by_cases h1 : (b : Int) = a + 1
  · go_enter Try.func30, Try.ntmps30
    go_wp2
    go_ret
    refine ⟨ret_bool ?_, Below.refl _ _⟩
    unfold ringN
    rw [Bool.eq_iff_iff]
    simp
    omega
  · have h2 : ((b : Int) == a + 1) = false := by simpa using h1
    have H1 := Lib.hid h1
    clear h1
    go_enter Try.func30, Try.ntmps30
    go_wp2
    go_ret
    refine ⟨ret_bool ?_, Below.refl _ _⟩
    have h1 := H1.out
    unfold ringN
    rw [Bool.eq_iff_iff]
    simp
    omega
theorem div64 (a n : Nat) (ha : a < 24) : wrap64 ((a : Int) / (n : Int)) = ((a / n : Nat) : Int) := by
  have h := Nat.div_le_self a n
  have e : (a : Int) / (n : Int) = ((a / n : Nat) : Int) := by simp
  rw [e]
  generalize a / n = q at h ⊢
  exact Go.IntWalk.wrap64_in _ ⟨by omega, by omega⟩
/-- the relation of a list of parents -/
def parN (zs : List Int) (a b : Nat) : Bool := idA zs b == a
end Go.Proofs.Ytfbbkiibhdgojaa
