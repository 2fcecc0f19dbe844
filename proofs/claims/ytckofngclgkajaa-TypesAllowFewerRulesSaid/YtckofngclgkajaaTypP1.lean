/- What between, known, ofNeighbour, aggregate and signature of the program of layer 7 answer. -/
import Derived.Test.YtckofngclgkajaaTypE
import Derived.Test.YtckofngclgkajaaTermP3
namespace Go.Proofs.Ytckofngclgkajaa
set_option maxRecDepth 100000
open Go.RowKit

theorem betweenP_any0 (lo x hi : Int) (w : World) : Calls Try.prog 67 #[.int .i64 lo, .int .i64 x, .int .i64 hi] w fun e w' => e = .returned (.bool (decide (lo ≤ x) && decide (x ≤ hi))) ∧ w' = w := by
  by_cases h1 : lo ≤ x
  · have d1 : decide (x ≥ lo) = true := decide_eq_true h1
    rw [decide_eq_true h1, Bool.true_and]
    go_enter Try.func67, Try.ntmps67
    go_wp2
    go_ret
    exact ⟨rfl, rfl⟩
  · have d1 : decide (x ≥ lo) = false := decide_eq_false h1
    rw [decide_eq_false h1, Bool.false_and]
    go_enter Try.func67, Try.ntmps67
    go_wp2
    go_ret
    exact ⟨rfl, rfl⟩
theorem knownP_any0 (k : Int) (w : World) : Calls Try.prog 30 #[.int .i64 k] w fun e w' => e = .returned (.bool (decide (1 ≤ k) && decide (k ≤ 3))) ∧ w' = w := by
  by_cases h1 : 1 ≤ k
  · have d1 : decide (k ≥ 1) = true := decide_eq_true h1
    rw [decide_eq_true h1, Bool.true_and]
    go_enter Try.func30, Try.ntmps30
    go_wp2
    go_ret
    exact ⟨rfl, rfl⟩
  · have d1 : decide (k ≥ 1) = false := decide_eq_false h1
    rw [decide_eq_false h1, Bool.false_and]
    go_enter Try.func30, Try.ntmps30
    go_wp2
    go_ret
    exact ⟨rfl, rfl⟩
theorem neighP_any (k : Int) (w : World) : Calls Try.prog 77 #[.int .i64 k] w fun e w' => e = .returned (.bool (decide (11 ≤ k) && decide (k ≤ 17))) ∧ w' = w := by
  by_cases h1 : 11 ≤ k
  · have d1 : decide (k ≥ 11) = true := decide_eq_true h1
    rw [decide_eq_true h1, Bool.true_and]
    go_enter Try.func77, Try.ntmps77
    go_wp2
    go_ret
    exact ⟨rfl, rfl⟩
  · have d1 : decide (k ≥ 11) = false := decide_eq_false h1
    rw [decide_eq_false h1, Bool.false_and]
    go_enter Try.func77, Try.ntmps77
    go_wp2
    go_ret
    exact ⟨rfl, rfl⟩
theorem aggP_any0 (k : Int) (w : World) : Calls Try.prog 80 #[.int .i64 k] w fun e w' => e = .returned (.bool (decide (20 ≤ k) && decide (k ≤ 29))) ∧ w' = w := by
  by_cases h1 : 20 ≤ k
  · have d1 : decide (k ≥ 20) = true := decide_eq_true h1
    rw [decide_eq_true h1, Bool.true_and]
    go_enter Try.func80, Try.ntmps80
    go_wp2
    go_ret
    exact ⟨rfl, rfl⟩
  · have d1 : decide (k ≥ 20) = false := decide_eq_false h1
    rw [decide_eq_false h1, Bool.false_and]
    go_enter Try.func80, Try.ntmps80
    go_wp2
    go_ret
    exact ⟨rfl, rfl⟩
theorem betweenP_any (lo x hi : Int) (w : World) : Calls Try.prog 67 #[.int .i64 lo, .int .i64 x, .int .i64 hi] w fun e w' => e = .returned (.bool (inF x lo hi)) ∧ w' = w := betweenP_any0 lo x hi w
theorem knownK_two (k : Int) : knownK k = (decide (1 ≤ k) && decide (k ≤ 3)) := by
  unfold knownK
  rw [Bool.eq_iff_iff]
  simp
theorem knownP_any (k : Int) (w : World) : Calls Try.prog 30 #[.int .i64 k] w fun e w' => e = .returned (.bool (knownK k)) ∧ w' = w := by
  rw [knownK_two]
  exact knownP_any0 k w
theorem aggF_two (k : Int) : aggF k = (decide (20 ≤ k) && decide (k ≤ 29)) := by
  unfold aggF
  rw [Bool.eq_iff_iff]
  simp
theorem aggP7_any (k : Int) (w : World) : Calls Try.prog 80 #[.int .i64 k] w fun e w' => e = .returned (.bool (aggF k)) ∧ w' = w := by
  rw [aggF_two]
  exact aggP_any0 k w
/-- the types of the operands that an operation wants; 4: one that is open -/
def sigA (op : Int) : List Int :=
  if 19 ≤ op ∧ op ≤ 23 then [2, 0, 0]
  else if op = 18 ∨ (24 ≤ op ∧ op ≤ 29) then [1, 0, 0]
  else if (30 ≤ op ∧ op ≤ 34) ∨ (37 ≤ op ∧ op ≤ 40) then [1, 1, 0]
  else if op = 35 ∨ op = 36 then [4, 4, 0]
  else if op = 41 ∨ op = 42 then [2, 2, 0]
  else if op = 43 then [2, 4, 4]
  else [0, 0, 0]
/-- the type of an operation; 4: the open one -/
def sigK (op : Int) : Int :=
  if op = 2 ∨ op = 3 ∨ op = 10 ∨ op = 15 then 2
  else if op = 4 ∨ op = 11 ∨ op = 17 then 3
  else if 19 ≤ op ∧ op ≤ 21 then 2
  else if op = 23 then 3
  else if (35 ≤ op ∧ op ≤ 42) then 2
  else if op = 43 then 4
  else 1
theorem sigA_three (op : Int) : ∃ x y z, sigA op = [x, y, z] := by
  unfold sigA
  repeat' split
  all_goals exact ⟨_, _, _, rfl⟩
/-- what signature answers: its block is left behind -/
def SigSays (op : Int) (w : World) (e : Ending) (w' : World) : Prop := (∃ x y z, sigA op = [x, y, z] ∧ e = .returned (.tuple #[.agg #[.int .i64 x, .int .i64 y, .int .i64 z], .int .i64 (sigK op)])) ∧ Below w.heap.size w w' 
set_option maxHeartbeats 4000000 in
theorem signature_1 (op : Int) (h : 1 ≤ op ∧ op ≤ 17) (w : World) : Calls Try.prog 78 #[.int .i64 op] w (SigSays op w) := by
  have hB := Lib.hid (below_alloc7 w)
  have hlist : op = 1 ∨ op = 2 ∨ op = 3 ∨ op = 4 ∨ op = 5 ∨ op = 6 ∨ op = 7 ∨ op = 8 ∨ op = 9 ∨ op = 10 ∨ op = 11 ∨ op = 12 ∨ op = 13 ∨ op = 14 ∨ op = 15 ∨ op = 16 ∨ op = 17 := by omega
  unfold SigSays
  rcases hlist with rfl | rfl | rfl | rfl | rfl | rfl | rfl | rfl | rfl | rfl | rfl | rfl | rfl | rfl | rfl | rfl | rfl
  all_goals clear h
  · go_enter Try.func78, Try.ntmps78
    go_wp2
    refine bodyPost_ret (v := .tuple #[.agg #[.int .i64 0, .int .i64 0, .int .i64 0], .int .i64 1]) (by rw [results_ct rfl]; go_simp) rfl ?_
    exact ⟨⟨_, _, _, rfl, rfl⟩, by first | exact hB.out _ | exact (hB.out _).setCell (Nat.le_refl _) _⟩
  · go_enter Try.func78, Try.ntmps78
    go_wp2
    refine bodyPost_ret (v := .tuple #[.agg #[.int .i64 0, .int .i64 0, .int .i64 0], .int .i64 2]) (by rw [results_ct rfl]; go_simp) rfl ?_
    exact ⟨⟨_, _, _, rfl, rfl⟩, by first | exact hB.out _ | exact (hB.out _).setCell (Nat.le_refl _) _⟩
  · go_enter Try.func78, Try.ntmps78
    go_wp2
    refine bodyPost_ret (v := .tuple #[.agg #[.int .i64 0, .int .i64 0, .int .i64 0], .int .i64 2]) (by rw [results_ct rfl]; go_simp) rfl ?_
    exact ⟨⟨_, _, _, rfl, rfl⟩, by first | exact hB.out _ | exact (hB.out _).setCell (Nat.le_refl _) _⟩
  · go_enter Try.func78, Try.ntmps78
    go_wp2
    refine bodyPost_ret (v := .tuple #[.agg #[.int .i64 0, .int .i64 0, .int .i64 0], .int .i64 3]) (by rw [results_ct rfl]; go_simp) rfl ?_
    exact ⟨⟨_, _, _, rfl, rfl⟩, by first | exact hB.out _ | exact (hB.out _).setCell (Nat.le_refl _) _⟩
  · go_enter Try.func78, Try.ntmps78
    go_wp2
    refine bodyPost_ret (v := .tuple #[.agg #[.int .i64 0, .int .i64 0, .int .i64 0], .int .i64 1]) (by rw [results_ct rfl]; go_simp) rfl ?_
    exact ⟨⟨_, _, _, rfl, rfl⟩, by first | exact hB.out _ | exact (hB.out _).setCell (Nat.le_refl _) _⟩
  · go_enter Try.func78, Try.ntmps78
    go_wp2
    refine bodyPost_ret (v := .tuple #[.agg #[.int .i64 0, .int .i64 0, .int .i64 0], .int .i64 1]) (by rw [results_ct rfl]; go_simp) rfl ?_
    exact ⟨⟨_, _, _, rfl, rfl⟩, by first | exact hB.out _ | exact (hB.out _).setCell (Nat.le_refl _) _⟩
  · go_enter Try.func78, Try.ntmps78
    go_wp2
    refine bodyPost_ret (v := .tuple #[.agg #[.int .i64 0, .int .i64 0, .int .i64 0], .int .i64 1]) (by rw [results_ct rfl]; go_simp) rfl ?_
    exact ⟨⟨_, _, _, rfl, rfl⟩, by first | exact hB.out _ | exact (hB.out _).setCell (Nat.le_refl _) _⟩
  · go_enter Try.func78, Try.ntmps78
    go_wp2
    refine bodyPost_ret (v := .tuple #[.agg #[.int .i64 0, .int .i64 0, .int .i64 0], .int .i64 1]) (by rw [results_ct rfl]; go_simp) rfl ?_
    exact ⟨⟨_, _, _, rfl, rfl⟩, by first | exact hB.out _ | exact (hB.out _).setCell (Nat.le_refl _) _⟩
  · go_enter Try.func78, Try.ntmps78
    go_wp2
    refine bodyPost_ret (v := .tuple #[.agg #[.int .i64 0, .int .i64 0, .int .i64 0], .int .i64 1]) (by rw [results_ct rfl]; go_simp) rfl ?_
    exact ⟨⟨_, _, _, rfl, rfl⟩, by first | exact hB.out _ | exact (hB.out _).setCell (Nat.le_refl _) _⟩
  · go_enter Try.func78, Try.ntmps78
    go_wp2
    refine bodyPost_ret (v := .tuple #[.agg #[.int .i64 0, .int .i64 0, .int .i64 0], .int .i64 2]) (by rw [results_ct rfl]; go_simp) rfl ?_
    exact ⟨⟨_, _, _, rfl, rfl⟩, by first | exact hB.out _ | exact (hB.out _).setCell (Nat.le_refl _) _⟩
  · go_enter Try.func78, Try.ntmps78
    go_wp2
    refine bodyPost_ret (v := .tuple #[.agg #[.int .i64 0, .int .i64 0, .int .i64 0], .int .i64 3]) (by rw [results_ct rfl]; go_simp) rfl ?_
    exact ⟨⟨_, _, _, rfl, rfl⟩, by first | exact hB.out _ | exact (hB.out _).setCell (Nat.le_refl _) _⟩
  · go_enter Try.func78, Try.ntmps78
    go_wp2
    refine bodyPost_ret (v := .tuple #[.agg #[.int .i64 0, .int .i64 0, .int .i64 0], .int .i64 1]) (by rw [results_ct rfl]; go_simp) rfl ?_
    exact ⟨⟨_, _, _, rfl, rfl⟩, by first | exact hB.out _ | exact (hB.out _).setCell (Nat.le_refl _) _⟩
  · go_enter Try.func78, Try.ntmps78
    go_wp2
    refine bodyPost_ret (v := .tuple #[.agg #[.int .i64 0, .int .i64 0, .int .i64 0], .int .i64 1]) (by rw [results_ct rfl]; go_simp) rfl ?_
    exact ⟨⟨_, _, _, rfl, rfl⟩, by first | exact hB.out _ | exact (hB.out _).setCell (Nat.le_refl _) _⟩
  · go_enter Try.func78, Try.ntmps78
    go_wp2
    refine bodyPost_ret (v := .tuple #[.agg #[.int .i64 0, .int .i64 0, .int .i64 0], .int .i64 1]) (by rw [results_ct rfl]; go_simp) rfl ?_
    exact ⟨⟨_, _, _, rfl, rfl⟩, by first | exact hB.out _ | exact (hB.out _).setCell (Nat.le_refl _) _⟩
  · go_enter Try.func78, Try.ntmps78
    go_wp2
    refine bodyPost_ret (v := .tuple #[.agg #[.int .i64 0, .int .i64 0, .int .i64 0], .int .i64 2]) (by rw [results_ct rfl]; go_simp) rfl ?_
    exact ⟨⟨_, _, _, rfl, rfl⟩, by first | exact hB.out _ | exact (hB.out _).setCell (Nat.le_refl _) _⟩
  · go_enter Try.func78, Try.ntmps78
    go_wp2
    refine bodyPost_ret (v := .tuple #[.agg #[.int .i64 0, .int .i64 0, .int .i64 0], .int .i64 1]) (by rw [results_ct rfl]; go_simp) rfl ?_
    exact ⟨⟨_, _, _, rfl, rfl⟩, by first | exact hB.out _ | exact (hB.out _).setCell (Nat.le_refl _) _⟩
  · go_enter Try.func78, Try.ntmps78
    go_wp2
    refine bodyPost_ret (v := .tuple #[.agg #[.int .i64 0, .int .i64 0, .int .i64 0], .int .i64 3]) (by rw [results_ct rfl]; go_simp) rfl ?_
    exact ⟨⟨_, _, _, rfl, rfl⟩, by first | exact hB.out _ | exact (hB.out _).setCell (Nat.le_refl _) _⟩
set_option maxHeartbeats 4000000 in
theorem signature_18 (op : Int) (h : 18 ≤ op ∧ op ≤ 34) (w : World) : Calls Try.prog 78 #[.int .i64 op] w (SigSays op w) := by
  have hB := Lib.hid (below_alloc7 w)
  have hlist : op = 18 ∨ op = 19 ∨ op = 20 ∨ op = 21 ∨ op = 22 ∨ op = 23 ∨ op = 24 ∨ op = 25 ∨ op = 26 ∨ op = 27 ∨ op = 28 ∨ op = 29 ∨ op = 30 ∨ op = 31 ∨ op = 32 ∨ op = 33 ∨ op = 34 := by omega
  unfold SigSays
  rcases hlist with rfl | rfl | rfl | rfl | rfl | rfl | rfl | rfl | rfl | rfl | rfl | rfl | rfl | rfl | rfl | rfl | rfl
  all_goals clear h
  · go_enter Try.func78, Try.ntmps78
    go_wp2
    refine bodyPost_ret (v := .tuple #[.agg #[.int .i64 1, .int .i64 0, .int .i64 0], .int .i64 1]) (by rw [results_ct rfl]; go_simp) rfl ?_
    exact ⟨⟨_, _, _, rfl, rfl⟩, by first | exact hB.out _ | exact (hB.out _).setCell (Nat.le_refl _) _⟩
  · go_enter Try.func78, Try.ntmps78
    go_wp2
    refine bodyPost_ret (v := .tuple #[.agg #[.int .i64 2, .int .i64 0, .int .i64 0], .int .i64 2]) (by rw [results_ct rfl]; go_simp) rfl ?_
    exact ⟨⟨_, _, _, rfl, rfl⟩, by first | exact hB.out _ | exact (hB.out _).setCell (Nat.le_refl _) _⟩
  · go_enter Try.func78, Try.ntmps78
    go_wp2
    refine bodyPost_ret (v := .tuple #[.agg #[.int .i64 2, .int .i64 0, .int .i64 0], .int .i64 2]) (by rw [results_ct rfl]; go_simp) rfl ?_
    exact ⟨⟨_, _, _, rfl, rfl⟩, by first | exact hB.out _ | exact (hB.out _).setCell (Nat.le_refl _) _⟩
  · go_enter Try.func78, Try.ntmps78
    go_wp2
    refine bodyPost_ret (v := .tuple #[.agg #[.int .i64 2, .int .i64 0, .int .i64 0], .int .i64 2]) (by rw [results_ct rfl]; go_simp) rfl ?_
    exact ⟨⟨_, _, _, rfl, rfl⟩, by first | exact hB.out _ | exact (hB.out _).setCell (Nat.le_refl _) _⟩
  · go_enter Try.func78, Try.ntmps78
    go_wp2
    refine bodyPost_ret (v := .tuple #[.agg #[.int .i64 2, .int .i64 0, .int .i64 0], .int .i64 1]) (by rw [results_ct rfl]; go_simp) rfl ?_
    exact ⟨⟨_, _, _, rfl, rfl⟩, by first | exact hB.out _ | exact (hB.out _).setCell (Nat.le_refl _) _⟩
  · go_enter Try.func78, Try.ntmps78
    go_wp2
    refine bodyPost_ret (v := .tuple #[.agg #[.int .i64 2, .int .i64 0, .int .i64 0], .int .i64 3]) (by rw [results_ct rfl]; go_simp) rfl ?_
    exact ⟨⟨_, _, _, rfl, rfl⟩, by first | exact hB.out _ | exact (hB.out _).setCell (Nat.le_refl _) _⟩
  · go_enter Try.func78, Try.ntmps78
    go_wp2
    refine bodyPost_ret (v := .tuple #[.agg #[.int .i64 1, .int .i64 0, .int .i64 0], .int .i64 1]) (by rw [results_ct rfl]; go_simp) rfl ?_
    exact ⟨⟨_, _, _, rfl, rfl⟩, by first | exact hB.out _ | exact (hB.out _).setCell (Nat.le_refl _) _⟩
  · go_enter Try.func78, Try.ntmps78
    go_wp2
    refine bodyPost_ret (v := .tuple #[.agg #[.int .i64 1, .int .i64 0, .int .i64 0], .int .i64 1]) (by rw [results_ct rfl]; go_simp) rfl ?_
    exact ⟨⟨_, _, _, rfl, rfl⟩, by first | exact hB.out _ | exact (hB.out _).setCell (Nat.le_refl _) _⟩
  · go_enter Try.func78, Try.ntmps78
    go_wp2
    refine bodyPost_ret (v := .tuple #[.agg #[.int .i64 1, .int .i64 0, .int .i64 0], .int .i64 1]) (by rw [results_ct rfl]; go_simp) rfl ?_
    exact ⟨⟨_, _, _, rfl, rfl⟩, by first | exact hB.out _ | exact (hB.out _).setCell (Nat.le_refl _) _⟩
  · go_enter Try.func78, Try.ntmps78
    go_wp2
    refine bodyPost_ret (v := .tuple #[.agg #[.int .i64 1, .int .i64 0, .int .i64 0], .int .i64 1]) (by rw [results_ct rfl]; go_simp) rfl ?_
    exact ⟨⟨_, _, _, rfl, rfl⟩, by first | exact hB.out _ | exact (hB.out _).setCell (Nat.le_refl _) _⟩
  · go_enter Try.func78, Try.ntmps78
    go_wp2
    refine bodyPost_ret (v := .tuple #[.agg #[.int .i64 1, .int .i64 0, .int .i64 0], .int .i64 1]) (by rw [results_ct rfl]; go_simp) rfl ?_
    exact ⟨⟨_, _, _, rfl, rfl⟩, by first | exact hB.out _ | exact (hB.out _).setCell (Nat.le_refl _) _⟩
  · go_enter Try.func78, Try.ntmps78
    go_wp2
    refine bodyPost_ret (v := .tuple #[.agg #[.int .i64 1, .int .i64 0, .int .i64 0], .int .i64 1]) (by rw [results_ct rfl]; go_simp) rfl ?_
    exact ⟨⟨_, _, _, rfl, rfl⟩, by first | exact hB.out _ | exact (hB.out _).setCell (Nat.le_refl _) _⟩
  · go_enter Try.func78, Try.ntmps78
    go_wp2
    refine bodyPost_ret (v := .tuple #[.agg #[.int .i64 1, .int .i64 1, .int .i64 0], .int .i64 1]) (by rw [results_ct rfl]; go_simp) rfl ?_
    exact ⟨⟨_, _, _, rfl, rfl⟩, by first | exact hB.out _ | exact (hB.out _).setCell (Nat.le_refl _) _⟩
  · go_enter Try.func78, Try.ntmps78
    go_wp2
    refine bodyPost_ret (v := .tuple #[.agg #[.int .i64 1, .int .i64 1, .int .i64 0], .int .i64 1]) (by rw [results_ct rfl]; go_simp) rfl ?_
    exact ⟨⟨_, _, _, rfl, rfl⟩, by first | exact hB.out _ | exact (hB.out _).setCell (Nat.le_refl _) _⟩
  · go_enter Try.func78, Try.ntmps78
    go_wp2
    refine bodyPost_ret (v := .tuple #[.agg #[.int .i64 1, .int .i64 1, .int .i64 0], .int .i64 1]) (by rw [results_ct rfl]; go_simp) rfl ?_
    exact ⟨⟨_, _, _, rfl, rfl⟩, by first | exact hB.out _ | exact (hB.out _).setCell (Nat.le_refl _) _⟩
  · go_enter Try.func78, Try.ntmps78
    go_wp2
    refine bodyPost_ret (v := .tuple #[.agg #[.int .i64 1, .int .i64 1, .int .i64 0], .int .i64 1]) (by rw [results_ct rfl]; go_simp) rfl ?_
    exact ⟨⟨_, _, _, rfl, rfl⟩, by first | exact hB.out _ | exact (hB.out _).setCell (Nat.le_refl _) _⟩
  · go_enter Try.func78, Try.ntmps78
    go_wp2
    refine bodyPost_ret (v := .tuple #[.agg #[.int .i64 1, .int .i64 1, .int .i64 0], .int .i64 1]) (by rw [results_ct rfl]; go_simp) rfl ?_
    exact ⟨⟨_, _, _, rfl, rfl⟩, by first | exact hB.out _ | exact (hB.out _).setCell (Nat.le_refl _) _⟩
set_option maxHeartbeats 4000000 in
theorem signature_35 (op : Int) (h : 35 ≤ op ∧ op ≤ 43) (w : World) : Calls Try.prog 78 #[.int .i64 op] w (SigSays op w) := by
  have hB := Lib.hid (below_alloc7 w)
  have hlist : op = 35 ∨ op = 36 ∨ op = 37 ∨ op = 38 ∨ op = 39 ∨ op = 40 ∨ op = 41 ∨ op = 42 ∨ op = 43 := by omega
  unfold SigSays
  rcases hlist with rfl | rfl | rfl | rfl | rfl | rfl | rfl | rfl | rfl
  all_goals clear h
  · go_enter Try.func78, Try.ntmps78
    go_wp2
    refine bodyPost_ret (v := .tuple #[.agg #[.int .i64 4, .int .i64 4, .int .i64 0], .int .i64 2]) (by rw [results_ct rfl]; go_simp) rfl ?_
    exact ⟨⟨_, _, _, rfl, rfl⟩, by first | exact hB.out _ | exact (hB.out _).setCell (Nat.le_refl _) _⟩
  · go_enter Try.func78, Try.ntmps78
    go_wp2
    refine bodyPost_ret (v := .tuple #[.agg #[.int .i64 4, .int .i64 4, .int .i64 0], .int .i64 2]) (by rw [results_ct rfl]; go_simp) rfl ?_
    exact ⟨⟨_, _, _, rfl, rfl⟩, by first | exact hB.out _ | exact (hB.out _).setCell (Nat.le_refl _) _⟩
  · go_enter Try.func78, Try.ntmps78
    go_wp2
    refine bodyPost_ret (v := .tuple #[.agg #[.int .i64 1, .int .i64 1, .int .i64 0], .int .i64 2]) (by rw [results_ct rfl]; go_simp) rfl ?_
    exact ⟨⟨_, _, _, rfl, rfl⟩, by first | exact hB.out _ | exact (hB.out _).setCell (Nat.le_refl _) _⟩
  · go_enter Try.func78, Try.ntmps78
    go_wp2
    refine bodyPost_ret (v := .tuple #[.agg #[.int .i64 1, .int .i64 1, .int .i64 0], .int .i64 2]) (by rw [results_ct rfl]; go_simp) rfl ?_
    exact ⟨⟨_, _, _, rfl, rfl⟩, by first | exact hB.out _ | exact (hB.out _).setCell (Nat.le_refl _) _⟩
  · go_enter Try.func78, Try.ntmps78
    go_wp2
    refine bodyPost_ret (v := .tuple #[.agg #[.int .i64 1, .int .i64 1, .int .i64 0], .int .i64 2]) (by rw [results_ct rfl]; go_simp) rfl ?_
    exact ⟨⟨_, _, _, rfl, rfl⟩, by first | exact hB.out _ | exact (hB.out _).setCell (Nat.le_refl _) _⟩
  · go_enter Try.func78, Try.ntmps78
    go_wp2
    refine bodyPost_ret (v := .tuple #[.agg #[.int .i64 1, .int .i64 1, .int .i64 0], .int .i64 2]) (by rw [results_ct rfl]; go_simp) rfl ?_
    exact ⟨⟨_, _, _, rfl, rfl⟩, by first | exact hB.out _ | exact (hB.out _).setCell (Nat.le_refl _) _⟩
  · go_enter Try.func78, Try.ntmps78
    go_wp2
    refine bodyPost_ret (v := .tuple #[.agg #[.int .i64 2, .int .i64 2, .int .i64 0], .int .i64 2]) (by rw [results_ct rfl]; go_simp) rfl ?_
    exact ⟨⟨_, _, _, rfl, rfl⟩, by first | exact hB.out _ | exact (hB.out _).setCell (Nat.le_refl _) _⟩
  · go_enter Try.func78, Try.ntmps78
    go_wp2
    refine bodyPost_ret (v := .tuple #[.agg #[.int .i64 2, .int .i64 2, .int .i64 0], .int .i64 2]) (by rw [results_ct rfl]; go_simp) rfl ?_
    exact ⟨⟨_, _, _, rfl, rfl⟩, by first | exact hB.out _ | exact (hB.out _).setCell (Nat.le_refl _) _⟩
  · go_enter Try.func78, Try.ntmps78
    go_wp2
    refine bodyPost_ret (v := .tuple #[.agg #[.int .i64 2, .int .i64 4, .int .i64 4], .int .i64 4]) (by rw [results_ct rfl]; go_simp) rfl ?_
    exact ⟨⟨_, _, _, rfl, rfl⟩, by first | exact hB.out _ | exact (hB.out _).setCell (Nat.le_refl _) _⟩
theorem signature_any (op : Int) (h : 1 ≤ op ∧ op ≤ 43) (w : World) : Calls Try.prog 78 #[.int .i64 op] w (SigSays op w) := by
  rcases Int.lt_or_le 17 op with h1 | h1
  · rcases Int.lt_or_le 34 op with h2 | h2
    · exact signature_35 op ⟨by omega, by omega⟩ w
    · exact signature_18 op ⟨by omega, by omega⟩ w
  · exact signature_1 op ⟨by omega, by omega⟩ w
end Go.Proofs.Ytckofngclgkajaa
