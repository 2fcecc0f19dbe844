/- What variable, inRange, Valid and what they call of the program answer. -/
import Derived.Test.YtbcndmlhbdanaaaTermDep
namespace Go.Proofs.Ytbcndmlhbdanaaa
open Go.RowKit

theorem boxT {w w' : World} {C : Array Value} {t : TypeId} (h : Below (w.alloc (.cells C t)).heap.size (w.alloc (.cells C t)) w') (i : Nat) : w'.cell? ⟨w.heap.size, i, none⟩ = C[i]? :=
  (h.cell (p := ⟨w.heap.size, i, none⟩) (by simp)).trans (World.cell?_alloc_new w C t i)
theorem belT {w w' : World} {o : Obj} (h : Below (w.alloc o).heap.size (w.alloc o) w') : Below w.heap.size w w' :=
  (((Below.refl _ _).alloc (Nat.le_refl _) o).trans (h.mono (by simp)))
/-- whether a term reads a variable -/
def varB (op : Int) : Bool := decide (op = 5 ∨ op = 12)
theorem varP_any (op x : Int) (w : World) : Calls Try.prog 40 #[.agg #[.int .i64 op, .int .i64 x]] w fun e w' => e = .returned (.bool (varB op)) ∧ Below w.heap.size w w' := by
  have HB := Lib.hid (fun n => belDraws ((Below.refl _ _).alloc (Nat.le_refl w.heap.size) (.cells #[.int .i64 op, .int .i64 x] 41)) n)
  have HB0 := Lib.hid ((Below.refl w.heap.size w).alloc (Nat.le_refl _) (.cells #[.int .i64 op, .int .i64 x] 41))
  unfold varB
  by_cases h5 : op = 5
  · subst h5
    go_enter Try.func40, Try.ntmps40
    go_wp2
    try (go_quiet (fail); go_wp2)
    go_ret
    exact ⟨rfl, by first | exact HB0.out | exact HB.out _⟩
  · by_cases h12 : op = 12
    · subst h12
      go_enter Try.func40, Try.ntmps40
      go_wp2
      try (go_quiet (fail); go_wp2)
      go_ret
      exact ⟨rfl, by first | exact HB0.out | exact HB.out _⟩
    · have q5 : (op == 5) = false := by simpa using h5
      have q12 : (op == 12) = false := by simpa using h12
      have hf : decide (op = 5 ∨ op = 12) = false := by simp [h5, h12]
      rw [hf]
      clear hf h5 h12
      go_enter Try.func40, Try.ntmps40
      go_wp2
      try (go_quiet (fail); go_wp2)
      go_ret
      exact ⟨rfl, by first | exact HB0.out | exact HB.out _⟩

theorem rangeP_any (op x vars : Int) (w : World) (hv : I64 vars) : Calls Try.prog 43 #[.agg #[.int .i64 op, .int .i64 x], .int .i64 vars] w fun e w' => e = .returned (.bool (argB (op, x) vars)) ∧ Below w.heap.size w w' := by
  have hB0 := (Below.refl w.heap.size w).alloc (Nat.le_refl _) (.cells #[.int .i64 op, .int .i64 x] 41)
  have HB0 := Lib.hid hB0
  have HVc := Lib.hid (fun (W : World) => varP_any op x W)
  obtain ⟨V, hV⟩ : ∃ V : Int, V = if op = 1 then 1073741825 else if op = 5 ∨ op = 12 then vars else 1 := ⟨_, rfl⟩
  have hb : argB (op, x) vars = (decide (0 ≤ x) && decide (x < V)) := by
    rw [hV, Bool.eq_iff_iff]
    unfold argB
    dsimp only
    repeat' split
    all_goals simp
    all_goals omega
  generalize argB (op, x) vars = b at hb ⊢
  have HBb := Lib.hid hb
  clear hb hB0
  have hop : (op = 1 ∧ V = 1073741825) ∨ (op ≠ 1 ∧ varB op = true ∧ V = vars) ∨ (op ≠ 1 ∧ varB op = false ∧ V = 1) := by
    unfold varB
    rw [hV]
    by_cases h1 : op = 1
    · exact .inl ⟨h1, by rw [if_pos h1]⟩
    · by_cases h2 : op = 5 ∨ op = 12
      · exact .inr (.inl ⟨h1, by simp [h2], by rw [if_neg h1, if_pos h2]⟩)
      · exact .inr (.inr ⟨h1, by simp only [decide_eq_false_iff_not]; exact h2, by rw [if_neg h1, if_neg h2]⟩)
  clear hV
  by_cases h0 : 0 ≤ x
  all_goals by_cases hx : x < V
  all_goals
    have d0 : decide (0 ≤ x) = decide (0 ≤ x) := rfl
    conv at d0 => rhs; simp only [h0, decide_true, decide_false]
    have d1 : decide (x < V) = decide (x < V) := rfl
    conv at d1 => rhs; simp only [hx, decide_true, decide_false]
    have HR := Lib.hid (HBb.out.trans (by rw [d0, d1]))
    clear HBb
    rcases hop with ⟨rfl, rfl⟩ | ⟨h1, hvb, rfl⟩ | ⟨h1, hvb, rfl⟩
    all_goals
      first
      | (exfalso; omega)
      | (have q1 : (op == 1) = false := by simpa using h1
         clear h1
         go_enter Try.func43, Try.ntmps43
         go_wp2_with (go_at_call 40; refine (HVc.out _).mono ?_; rintro e w1 ⟨rfl, hb1⟩; rw [hvb]; have hx0 : w1.cell? ⟨w.heap.size, 0, none⟩ = some (.int .i64 op) := boxT hb1 0; have hx1 : w1.cell? ⟨w.heap.size, 1, none⟩ = some (.int .i64 x) := boxT hb1 1)
         try (go_quiet (fail); go_wp2)
         go_ret
         exact ⟨ret_bool (by rw [HR.out] <;> rfl), by first | exact belT hb1 | exact belDraws (belT hb1) _⟩)
      | (go_enter Try.func43, Try.ntmps43
         go_wp2
         try (go_quiet (fail); go_wp2)
         go_ret
         exact ⟨ret_bool (by rw [HR.out] <;> rfl), by first | exact HB0.out | exact belDraws HB0.out _⟩)
end Go.Proofs.Ytbcndmlhbdanaaa
