/- What in and numbers of the specification of layer 7 answer. -/
import Derived.Test.YtckofngclgkajaaTypProg
namespace Go.Proofs.Ytckofngclgkajaa
set_option maxRecDepth 100000
open Go.RowKit

def inF (v lo hi : Int) : Bool := decide (lo ≤ v) && decide (v ≤ hi)
theorem inR_any (v lo hi : Int) (w : World) : Calls Try.prog 43 #[.int .i64 v, .int .i64 lo, .int .i64 hi] w fun e w' => e = .returned (.bool (inF v lo hi)) ∧ w' = w := by
  unfold inF
  by_cases h1 : lo ≤ v
  · have d1 : decide (v ≥ lo) = true := decide_eq_true h1
    rw [decide_eq_true h1, Bool.true_and]
    go_enter Try.func43, Try.ntmps43
    go_wp2
    go_ret
    exact ⟨rfl, rfl⟩
  · have d1 : decide (v ≥ lo) = false := decide_eq_false h1
    rw [decide_eq_false h1, Bool.false_and]
    go_enter Try.func43, Try.ntmps43
    go_wp2
    go_ret
    exact ⟨rfl, rfl⟩
def numbersF (v : VarV) : Bool :=
  if v.kind = 1 then
    inF v.lo 0 4096 && (inF v.pn 0 255 && (inF v.pid 0 255 && (if v.pn = 0 then (if v.pid = 0 then inF v.hi 0 4096 else inF v.hi (-4096) 4096) else (if v.pid = 0 then inF v.hi (-4096) 4096 else false))))
  else knownK v.kind && (decide (v.lo = 0) && (decide (v.hi = 0) && (decide (v.pn = 0) && decide (v.pid = 0))))
def VarV.value (v : VarV) : Value := .agg #[.string v.name, .int .i64 v.kind, .int .i64 v.lo, .int .i64 v.hi, .int .i64 v.pn, .int .i64 v.pid]
set_option maxHeartbeats 4000000 in
theorem numbersR_any (v : VarV) (w : World) : Calls Try.prog 45 #[v.value] w fun e w' => e = .returned (.bool (numbersF v)) ∧ Below w.heap.size w w' := by
  obtain ⟨s, kind, lo, hi, pn, pid⟩ := v
  unfold numbersF VarV.value
  dsimp only
  by_cases hk : kind = 1
  · subst hk
    rw [if_pos rfl]
    have HI1 := fun w => inR_any lo 0 4096 w
    have HI2 := fun w => inR_any pn 0 255 w
    have HI3 := fun w => inR_any pid 0 255 w
    have HI4 := fun w => inR_any hi 0 4096 w
    have HI5 := fun w => inR_any hi (-4096) 4096 w
    have h23 : pn = pid → inF pn 0 255 = inF pid 0 255 := fun h => by rw [h]
    generalize inF lo 0 4096 = b1 at *
    generalize inF pn 0 255 = b2 at *
    generalize inF pid 0 255 = b3 at *
    generalize inF hi 0 4096 = b4 at *
    generalize inF hi (-4096) 4096 = b5 at *
    by_cases hp : pn = 0
    all_goals by_cases hq : pid = 0
    all_goals first | rw [if_pos hp] | rw [if_neg hp]
    all_goals first | rw [if_pos hq] | rw [if_neg hq]
    all_goals first | (subst hp) | (have hp0 : (pn == 0) = false := (by simp; omega); have hp1 : (pn != 0) = true := (by simp; omega))
    all_goals first | (subst hq) | (have hq0 : (pid == 0) = false := (by simp; omega); have hq1 : (pid != 0) = true := (by simp; omega))
    all_goals cases b1
    all_goals try cases b2
    all_goals try cases b3
    all_goals try (exact absurd (h23 rfl) (by decide))
    all_goals clear h23
    all_goals
      go_enter Try.func45, Try.ntmps45
      go_wp2_with (go_at_call 43; first
        | ((with_reducible refine (HI1 _).mono ?_); rintro e w1 ⟨rfl, rfl⟩)
        | ((with_reducible refine (HI2 _).mono ?_); rintro e w1 ⟨rfl, rfl⟩)
        | ((with_reducible refine (HI3 _).mono ?_); rintro e w1 ⟨rfl, rfl⟩)
        | ((with_reducible refine (HI4 _).mono ?_); rintro e w1 ⟨rfl, rfl⟩)
        | ((with_reducible refine (HI5 _).mono ?_); rintro e w1 ⟨rfl, rfl⟩))
      go_ret
      exact ⟨by first | rfl | simp, below_alloc7 _ _⟩
  · rw [if_neg hk]
    have hk0 : (kind == 1) = false := by simp; omega
    have hk1 : (kind != 1) = true := by simp; omega
    have HK := fun w => knownR_any kind w
    generalize knownK kind = b1 at *
    by_cases h1 : lo = 0
    all_goals by_cases h2 : hi = 0
    all_goals by_cases h3 : pn = 0
    all_goals by_cases h4 : pid = 0
    all_goals first | rw [decide_eq_true h1] | rw [decide_eq_false h1]
    all_goals first | rw [decide_eq_true h2] | rw [decide_eq_false h2]
    all_goals first | rw [decide_eq_true h3] | rw [decide_eq_false h3]
    all_goals first | rw [decide_eq_true h4] | rw [decide_eq_false h4]
    all_goals first | (subst h1) | (have d1 : (lo == 0) = false := (by simp; omega))
    all_goals first | (subst h2) | (have d2 : (hi == 0) = false := (by simp; omega))
    all_goals first | (subst h3) | (have d3 : (pn == 0) = false := (by simp; omega))
    all_goals first | (subst h4) | (have d4 : (pid == 0) = false := (by simp; omega))
    all_goals cases b1
    all_goals
      go_enter Try.func45, Try.ntmps45
      go_wp2_with (go_at_call 33; refine (HK _).mono ?_; rintro e w1 ⟨rfl, rfl⟩)
      go_ret
      exact ⟨by first | rfl | simp, below_alloc7 _ _⟩
end Go.Proofs.Ytckofngclgkajaa
