/- What inRange of the program's types answers. -/
import Derived.Test.YtckofngclgkajaaTypMap
namespace Go.Proofs.Ytckofngclgkajaa
set_option maxRecDepth 100000
open Go.RowKit

set_option maxHeartbeats 4000000 in
theorem inRangeP_any (v : VarV) (w : World) : Calls Try.prog 38 #[v.value] w fun e w' => e = .returned (.bool (numbersF v)) ∧ Below w.heap.size w w' := by
  obtain ⟨s, kind, lo, hi, pn, pid⟩ := v
  unfold numbersF VarV.value
  dsimp only
  by_cases hk : kind = 1
  · subst hk
    rw [if_pos rfl]
    have HI1 := fun w => betweenP_any 0 lo 4096 w
    have HI2 := fun w => betweenP_any 0 pn 255 w
    have HI3 := fun w => betweenP_any 0 pid 255 w
    have HI4 := fun w => betweenP_any 0 hi 4096 w
    have HI5 := fun w => betweenP_any (-4096) hi 4096 w
    generalize inF lo 0 4096 = b1 at *
    generalize inF hi 0 4096 = b4 at *
    generalize inF hi (-4096) 4096 = b5 at *
    have h0 : inF 0 0 255 = true := rfl
    by_cases hp : pn = 0
    · subst hp
      rw [if_pos rfl]
      rw [h0] at HI2 ⊢
      by_cases hq : pid = 0
      · subst hq
        rw [if_pos rfl]
        rw [h0] at HI3
        clear h0
        · cases b1
          · go_enter Try.func38, Try.ntmps38
            go_wp2_with (go_at_call 67; first
              | ((with_reducible refine (HI1 _).mono ?_); rintro e w1 ⟨rfl, rfl⟩)
              | ((with_reducible refine (HI2 _).mono ?_); rintro e w1 ⟨rfl, rfl⟩)
              | ((with_reducible refine (HI3 _).mono ?_); rintro e w1 ⟨rfl, rfl⟩)
              | ((with_reducible refine (HI4 _).mono ?_); rintro e w1 ⟨rfl, rfl⟩)
              | ((with_reducible refine (HI5 _).mono ?_); rintro e w1 ⟨rfl, rfl⟩))
            go_ret
            exact ⟨by first | rfl | simp, below_alloc7 _ _⟩
          · cases b4
            · go_enter Try.func38, Try.ntmps38
              go_wp2_with (go_at_call 67; first
                | ((with_reducible refine (HI1 _).mono ?_); rintro e w1 ⟨rfl, rfl⟩)
                | ((with_reducible refine (HI2 _).mono ?_); rintro e w1 ⟨rfl, rfl⟩)
                | ((with_reducible refine (HI3 _).mono ?_); rintro e w1 ⟨rfl, rfl⟩)
                | ((with_reducible refine (HI4 _).mono ?_); rintro e w1 ⟨rfl, rfl⟩)
                | ((with_reducible refine (HI5 _).mono ?_); rintro e w1 ⟨rfl, rfl⟩))
              go_ret
              exact ⟨by first | rfl | simp, below_alloc7 _ _⟩
            · go_enter Try.func38, Try.ntmps38
              go_wp2_with (go_at_call 67; first
                | ((with_reducible refine (HI1 _).mono ?_); rintro e w1 ⟨rfl, rfl⟩)
                | ((with_reducible refine (HI2 _).mono ?_); rintro e w1 ⟨rfl, rfl⟩)
                | ((with_reducible refine (HI3 _).mono ?_); rintro e w1 ⟨rfl, rfl⟩)
                | ((with_reducible refine (HI4 _).mono ?_); rintro e w1 ⟨rfl, rfl⟩)
                | ((with_reducible refine (HI5 _).mono ?_); rintro e w1 ⟨rfl, rfl⟩))
              go_ret
              exact ⟨by first | rfl | simp, below_alloc7 _ _⟩
      · rw [if_neg hq]
        have hq0 : (pid == 0) = false := (by simp; omega)
        have hq1 : (pid != 0) = true := (by simp; omega)
        generalize inF pid 0 255 = b3 at *
        clear h0
        · cases b1
          · go_enter Try.func38, Try.ntmps38
            go_wp2_with (go_at_call 67; first
              | ((with_reducible refine (HI1 _).mono ?_); rintro e w1 ⟨rfl, rfl⟩)
              | ((with_reducible refine (HI2 _).mono ?_); rintro e w1 ⟨rfl, rfl⟩)
              | ((with_reducible refine (HI3 _).mono ?_); rintro e w1 ⟨rfl, rfl⟩)
              | ((with_reducible refine (HI4 _).mono ?_); rintro e w1 ⟨rfl, rfl⟩)
              | ((with_reducible refine (HI5 _).mono ?_); rintro e w1 ⟨rfl, rfl⟩))
            go_ret
            exact ⟨by first | rfl | simp, below_alloc7 _ _⟩
          · cases b5
            · go_enter Try.func38, Try.ntmps38
              go_wp2_with (go_at_call 67; first
                | ((with_reducible refine (HI1 _).mono ?_); rintro e w1 ⟨rfl, rfl⟩)
                | ((with_reducible refine (HI2 _).mono ?_); rintro e w1 ⟨rfl, rfl⟩)
                | ((with_reducible refine (HI3 _).mono ?_); rintro e w1 ⟨rfl, rfl⟩)
                | ((with_reducible refine (HI4 _).mono ?_); rintro e w1 ⟨rfl, rfl⟩)
                | ((with_reducible refine (HI5 _).mono ?_); rintro e w1 ⟨rfl, rfl⟩))
              go_ret
              exact ⟨by first | rfl | simp, below_alloc7 _ _⟩
            · cases b3
              · go_enter Try.func38, Try.ntmps38
                go_wp2_with (go_at_call 67; first
                  | ((with_reducible refine (HI1 _).mono ?_); rintro e w1 ⟨rfl, rfl⟩)
                  | ((with_reducible refine (HI2 _).mono ?_); rintro e w1 ⟨rfl, rfl⟩)
                  | ((with_reducible refine (HI3 _).mono ?_); rintro e w1 ⟨rfl, rfl⟩)
                  | ((with_reducible refine (HI4 _).mono ?_); rintro e w1 ⟨rfl, rfl⟩)
                  | ((with_reducible refine (HI5 _).mono ?_); rintro e w1 ⟨rfl, rfl⟩))
                go_ret
                exact ⟨by first | rfl | simp, below_alloc7 _ _⟩
              · go_enter Try.func38, Try.ntmps38
                go_wp2_with (go_at_call 67; first
                  | ((with_reducible refine (HI1 _).mono ?_); rintro e w1 ⟨rfl, rfl⟩)
                  | ((with_reducible refine (HI2 _).mono ?_); rintro e w1 ⟨rfl, rfl⟩)
                  | ((with_reducible refine (HI3 _).mono ?_); rintro e w1 ⟨rfl, rfl⟩)
                  | ((with_reducible refine (HI4 _).mono ?_); rintro e w1 ⟨rfl, rfl⟩)
                  | ((with_reducible refine (HI5 _).mono ?_); rintro e w1 ⟨rfl, rfl⟩))
                go_ret
                exact ⟨by first | rfl | simp, below_alloc7 _ _⟩
    · rw [if_neg hp]
      have hp0 : (pn == 0) = false := (by simp; omega)
      have hp1 : (pn != 0) = true := (by simp; omega)
      by_cases hq : pid = 0
      · subst hq
        rw [if_pos rfl]
        rw [h0] at HI3 ⊢
        generalize inF pn 0 255 = b2 at *
        clear h0
        · cases b1
          · go_enter Try.func38, Try.ntmps38
            go_wp2_with (go_at_call 67; first
              | ((with_reducible refine (HI1 _).mono ?_); rintro e w1 ⟨rfl, rfl⟩)
              | ((with_reducible refine (HI2 _).mono ?_); rintro e w1 ⟨rfl, rfl⟩)
              | ((with_reducible refine (HI3 _).mono ?_); rintro e w1 ⟨rfl, rfl⟩)
              | ((with_reducible refine (HI4 _).mono ?_); rintro e w1 ⟨rfl, rfl⟩)
              | ((with_reducible refine (HI5 _).mono ?_); rintro e w1 ⟨rfl, rfl⟩))
            go_ret
            exact ⟨by first | rfl | simp, below_alloc7 _ _⟩
          · cases b5
            · go_enter Try.func38, Try.ntmps38
              go_wp2_with (go_at_call 67; first
                | ((with_reducible refine (HI1 _).mono ?_); rintro e w1 ⟨rfl, rfl⟩)
                | ((with_reducible refine (HI2 _).mono ?_); rintro e w1 ⟨rfl, rfl⟩)
                | ((with_reducible refine (HI3 _).mono ?_); rintro e w1 ⟨rfl, rfl⟩)
                | ((with_reducible refine (HI4 _).mono ?_); rintro e w1 ⟨rfl, rfl⟩)
                | ((with_reducible refine (HI5 _).mono ?_); rintro e w1 ⟨rfl, rfl⟩))
              go_ret
              exact ⟨by first | rfl | simp, below_alloc7 _ _⟩
            · cases b2
              · go_enter Try.func38, Try.ntmps38
                go_wp2_with (go_at_call 67; first
                  | ((with_reducible refine (HI1 _).mono ?_); rintro e w1 ⟨rfl, rfl⟩)
                  | ((with_reducible refine (HI2 _).mono ?_); rintro e w1 ⟨rfl, rfl⟩)
                  | ((with_reducible refine (HI3 _).mono ?_); rintro e w1 ⟨rfl, rfl⟩)
                  | ((with_reducible refine (HI4 _).mono ?_); rintro e w1 ⟨rfl, rfl⟩)
                  | ((with_reducible refine (HI5 _).mono ?_); rintro e w1 ⟨rfl, rfl⟩))
                go_ret
                exact ⟨by first | rfl | simp, below_alloc7 _ _⟩
              · go_enter Try.func38, Try.ntmps38
                go_wp2_with (go_at_call 67; first
                  | ((with_reducible refine (HI1 _).mono ?_); rintro e w1 ⟨rfl, rfl⟩)
                  | ((with_reducible refine (HI2 _).mono ?_); rintro e w1 ⟨rfl, rfl⟩)
                  | ((with_reducible refine (HI3 _).mono ?_); rintro e w1 ⟨rfl, rfl⟩)
                  | ((with_reducible refine (HI4 _).mono ?_); rintro e w1 ⟨rfl, rfl⟩)
                  | ((with_reducible refine (HI5 _).mono ?_); rintro e w1 ⟨rfl, rfl⟩))
                go_ret
                exact ⟨by first | rfl | simp, below_alloc7 _ _⟩
      · rw [if_neg hq]
        have hq0 : (pid == 0) = false := (by simp; omega)
        have hq1 : (pid != 0) = true := (by simp; omega)
        generalize inF pn 0 255 = b2 at *
        generalize inF pid 0 255 = b3 at *
        clear h0
        · cases b1
          · go_enter Try.func38, Try.ntmps38
            go_wp2_with (go_at_call 67; first
              | ((with_reducible refine (HI1 _).mono ?_); rintro e w1 ⟨rfl, rfl⟩)
              | ((with_reducible refine (HI2 _).mono ?_); rintro e w1 ⟨rfl, rfl⟩)
              | ((with_reducible refine (HI3 _).mono ?_); rintro e w1 ⟨rfl, rfl⟩)
              | ((with_reducible refine (HI4 _).mono ?_); rintro e w1 ⟨rfl, rfl⟩)
              | ((with_reducible refine (HI5 _).mono ?_); rintro e w1 ⟨rfl, rfl⟩))
            go_ret
            exact ⟨by first | rfl | simp, below_alloc7 _ _⟩
          · cases b5
            · go_enter Try.func38, Try.ntmps38
              go_wp2_with (go_at_call 67; first
                | ((with_reducible refine (HI1 _).mono ?_); rintro e w1 ⟨rfl, rfl⟩)
                | ((with_reducible refine (HI2 _).mono ?_); rintro e w1 ⟨rfl, rfl⟩)
                | ((with_reducible refine (HI3 _).mono ?_); rintro e w1 ⟨rfl, rfl⟩)
                | ((with_reducible refine (HI4 _).mono ?_); rintro e w1 ⟨rfl, rfl⟩)
                | ((with_reducible refine (HI5 _).mono ?_); rintro e w1 ⟨rfl, rfl⟩))
              go_ret
              exact ⟨by first | rfl | simp, below_alloc7 _ _⟩
            · cases b2
              · go_enter Try.func38, Try.ntmps38
                go_wp2_with (go_at_call 67; first
                  | ((with_reducible refine (HI1 _).mono ?_); rintro e w1 ⟨rfl, rfl⟩)
                  | ((with_reducible refine (HI2 _).mono ?_); rintro e w1 ⟨rfl, rfl⟩)
                  | ((with_reducible refine (HI3 _).mono ?_); rintro e w1 ⟨rfl, rfl⟩)
                  | ((with_reducible refine (HI4 _).mono ?_); rintro e w1 ⟨rfl, rfl⟩)
                  | ((with_reducible refine (HI5 _).mono ?_); rintro e w1 ⟨rfl, rfl⟩))
                go_ret
                exact ⟨by first | rfl | simp, below_alloc7 _ _⟩
              · cases b3
                · go_enter Try.func38, Try.ntmps38
                  go_wp2_with (go_at_call 67; first
                    | ((with_reducible refine (HI1 _).mono ?_); rintro e w1 ⟨rfl, rfl⟩)
                    | ((with_reducible refine (HI2 _).mono ?_); rintro e w1 ⟨rfl, rfl⟩)
                    | ((with_reducible refine (HI3 _).mono ?_); rintro e w1 ⟨rfl, rfl⟩)
                    | ((with_reducible refine (HI4 _).mono ?_); rintro e w1 ⟨rfl, rfl⟩)
                    | ((with_reducible refine (HI5 _).mono ?_); rintro e w1 ⟨rfl, rfl⟩))
                  go_ret
                  exact ⟨by first | rfl | simp, below_alloc7 _ _⟩
                · go_enter Try.func38, Try.ntmps38
                  go_wp2_with (go_at_call 67; first
                    | ((with_reducible refine (HI1 _).mono ?_); rintro e w1 ⟨rfl, rfl⟩)
                    | ((with_reducible refine (HI2 _).mono ?_); rintro e w1 ⟨rfl, rfl⟩)
                    | ((with_reducible refine (HI3 _).mono ?_); rintro e w1 ⟨rfl, rfl⟩)
                    | ((with_reducible refine (HI4 _).mono ?_); rintro e w1 ⟨rfl, rfl⟩)
                    | ((with_reducible refine (HI5 _).mono ?_); rintro e w1 ⟨rfl, rfl⟩))
                  go_ret
                  exact ⟨by first | rfl | simp, below_alloc7 _ _⟩
  · rw [if_neg hk]
    have hk0 : (kind == 1) = false := by simp; omega
    have hk1 : (kind != 1) = true := by simp; omega
    have HK := fun w => knownP_any kind w
    generalize knownK kind = b1 at *
    have d1 : (lo == 0) = decide (lo = 0) := rfl
    have d2 : (hi == 0) = decide (hi = 0) := rfl
    have d3 : (pn == 0) = decide (pn = 0) := rfl
    have d4 : (pid == 0) = decide (pid = 0) := rfl
    generalize decide (lo = 0) = c1 at *
    generalize decide (hi = 0) = c2 at *
    generalize decide (pn = 0) = c3 at *
    generalize decide (pid = 0) = c4 at *
    · cases b1
      · go_enter Try.func38, Try.ntmps38
        go_wp2_with (go_at_call 30; refine (HK _).mono ?_; rintro e w1 ⟨rfl, rfl⟩)
        go_ret
        exact ⟨by first | rfl | simp, below_alloc7 _ _⟩
      · cases c1
        · go_enter Try.func38, Try.ntmps38
          go_wp2_with (go_at_call 30; refine (HK _).mono ?_; rintro e w1 ⟨rfl, rfl⟩)
          go_ret
          exact ⟨by first | rfl | simp, below_alloc7 _ _⟩
        · cases c2
          · go_enter Try.func38, Try.ntmps38
            go_wp2_with (go_at_call 30; refine (HK _).mono ?_; rintro e w1 ⟨rfl, rfl⟩)
            go_ret
            exact ⟨by first | rfl | simp, below_alloc7 _ _⟩
          · cases c3
            · go_enter Try.func38, Try.ntmps38
              go_wp2_with (go_at_call 30; refine (HK _).mono ?_; rintro e w1 ⟨rfl, rfl⟩)
              go_ret
              exact ⟨by first | rfl | simp, below_alloc7 _ _⟩
            · go_enter Try.func38, Try.ntmps38
              go_wp2_with (go_at_call 30; refine (HK _).mono ?_; rintro e w1 ⟨rfl, rfl⟩)
              go_ret
              exact ⟨by first | rfl | simp, below_alloc7 _ _⟩
end Go.Proofs.Ytckofngclgkajaa
