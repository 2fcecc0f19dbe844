/- What one, argument, Operand and Same of the specification of layer 5 answer. -/
import Derived.Test.YtbcndmlhbdanaaaTermR
namespace Go.Proofs.Ytbcndmlhbdanaaa
open Go.RowKit

theorem oneR_any (a : Option Addr) (c : Nat) (xs : List (Int × Int)) (w : World) (hX : LinksAt w a xs) (hn : xs.length ≤ 1000000) :
    Calls Try.prog 35 #[.slice a xs.length c] w fun e w' => e = .returned (.bool (oneB xs)) ∧ Below w.heap.size w w' := by
  have HE := Lib.hid (endR_any a c xs 0 w hX hn)
  have HO : Hid (oneB xs = (decide (0 < xs.length) && (endF xs 0 == xs.length))) := Lib.hid (by unfold oneB; rw [Bool.eq_iff_iff]; simp)
  generalize oneB xs = b at HO ⊢
  generalize endF xs 0 = z at HO HE
  obtain ⟨m, hm⟩ : ∃ m, m = xs.length := ⟨_, rfl⟩
  rw [← hm] at HO HE hn ⊢
  clear hm hX
  by_cases h0 : 0 < m
  · have d0 : decide ((m : Int) > 0) = true := by simp; omega
    have hb : b = (z == m) := by rw [HO.out]; simp [h0]
    go_enter Try.func35, Try.ntmps35
    go_wp2_with (go_at_call 15; refine HE.out.mono ?_; rintro e w1 ⟨rfl, hb1⟩)
    go_ret
    exact ⟨ret_bool hb.symm, hb1⟩
  · obtain rfl : m = 0 := by omega
    have hb : b = false := by rw [HO.out]; simp
    go_enter Try.func35, Try.ntmps35
    go_wp2
    go_ret
    exact ⟨ret_bool hb.symm, by first | exact Below.refl _ _ | exact belDraws (Below.refl _ _) _⟩

theorem argR_any (op x vars : Int) (w : World) :
    Calls Try.prog 44 #[.agg #[.int .i64 op, .int .i64 x], .int .i64 vars] w fun e w' => e = .returned (.bool (argB (op, x) vars)) ∧ Below w.heap.size w w' := by
  have hbel : ∀ n, Below w.heap.size w ((w.alloc (.cells #[.int .i64 op, .int .i64 x] 41)).drewN n) := fun n => belDraws ((Below.refl _ _).alloc (Nat.le_refl _) _) n
  have HB := Lib.hid hbel
  have HB0 := Lib.hid ((Below.refl w.heap.size w).alloc (Nat.le_refl _) (.cells #[.int .i64 op, .int .i64 x] 41))
  have h0 : argB (op, x) vars = argB (op, x) vars := rfl
  conv at h0 => rhs; unfold argB
  dsimp only at h0
  clear hbel
  by_cases h1 : op = 1
  · subst h1
    rw [if_pos rfl] at h0
    have HE := Lib.hid h0
    generalize argB (1, x) vars = b at HE ⊢
    clear h0
    by_cases g0 : 0 ≤ x
    all_goals by_cases g1 : x ≤ 1073741824
    all_goals first
      | omega
      | (go_enter Try.func44, Try.ntmps44
         go_wp2
         try (go_quiet (fail); go_wp2)
         go_ret
         exact ⟨ret_bool (by rw [HE.out, Bool.eq_iff_iff] <;> simp <;> omega), by first | exact HB0.out | exact HB.out _⟩)
  · rw [if_neg h1] at h0
    by_cases h5 : op = 5 ∨ op = 12
    · rw [if_pos h5] at h0
      have HE := Lib.hid h0
      clear h0
      rcases h5 with rfl | rfl
      all_goals generalize argB _ vars = b at HE ⊢
      all_goals by_cases g0 : 0 ≤ x
      all_goals by_cases g1 : x < vars
      all_goals
        have g2 : decide (0 ≤ x) = decide (0 ≤ x) := rfl
        conv at g2 => rhs; simp only [g0, decide_true, decide_false]
        go_enter Try.func44, Try.ntmps44
        go_wp2
        try (go_quiet (fail); go_wp2)
        go_ret
        exact ⟨ret_bool (by rw [HE.out, Bool.eq_iff_iff] <;> simp <;> omega), by first | exact HB0.out | exact HB.out _⟩
    · rw [if_neg h5] at h0
      have HE := Lib.hid h0
      generalize argB (op, x) vars = b at HE ⊢
      clear h0
      have q1 : (op == 1) = false := by simpa using h1
      have q5 : (op == 5) = false := by rw [beq_eq_false_iff_ne]; exact fun h => h5 (.inl h)
      have q12 : (op == 12) = false := by rw [beq_eq_false_iff_ne]; exact fun h => h5 (.inr h)
      clear h1 h5
      go_enter Try.func44, Try.ntmps44
      go_wp2
      try (go_quiet (fail); go_wp2)
      go_ret
      exact ⟨ret_bool (by rw [HE.out, Bool.eq_iff_iff] <;> simp), by first | exact HB0.out | exact HB.out _⟩

/-- a struct of two numbers, compared -/
theorem sameR_any (a a' : Option Addr) (c c' : Nat) (xs ys : List (Int × Int)) (w : World) (hX : LinksAt w a xs) (hY : LinksAt w a' ys) (hn : xs.length ≤ 1000000) (hn2 : ys.length ≤ 1000000) :
    Calls Try.prog 28 #[.slice a xs.length c, .slice a' ys.length c'] w fun e w' => e = .returned (.bool (decide (xs = ys))) ∧ Below w.heap.size w w' := by
  have HX := Lib.hid hX
  have HY := Lib.hid hY
  obtain ⟨m, hm⟩ : ∃ m, m = xs.length := ⟨_, rfl⟩
  obtain ⟨n, hn'⟩ : ∃ n, n = ys.length := ⟨_, rfl⟩
  have HM := Lib.hid hm
  have HN := Lib.hid hn'
  rw [← hm] at hn ⊢
  rw [← hn'] at hn2 ⊢
  clear hm hn' hX hY
  by_cases hmn : m = n
  case neg =>
    have hf : decide (xs = ys) = false := decide_eq_false fun h => hmn (by rw [HM.out, HN.out, h])
    have d : ((m : Int) != n) = true := by simp; omega
    generalize decide (xs = ys) = b at hf ⊢
    go_enter Try.func28, Try.ntmps28
    go_wp2
    go_ret
    exact ⟨ret_bool hf.symm, by first | exact Below.refl _ _ | exact belDraws (Below.refl _ _) _⟩
  subst hmn
  obtain ⟨b, hb⟩ : ∃ b, b = decide (xs = ys) := ⟨_, rfl⟩
  have HB := Lib.hid hb
  rw [← hb]
  clear hb
  have d : ((m : Int) != m) = false := by simp
  go_enter Try.func28, Try.ntmps28
  go_wp2
  go_loopw [5] (fun t wr => ∃ i : Nat, t = .int .i64 i ∧ i ≤ m ∧ (∀ j, j < i → toA xs j = toA ys j ∧ wtA xs j = wtA ys j) ∧ Below w.heap.size w wr) (fun t _ => m - (intOf t).toNat)
  case atStart => exact ⟨0, rfl, Nat.zero_le _, fun j hj => absurd hj (by omega), by first | exact Below.refl _ _ | exact belDraws (Below.refl _ _) _⟩
  case round =>
    obtain ⟨i, rfl, hi, hs, hbr⟩ := hrel
    have HS := Lib.hid hs
    have HBr := Lib.hid hbr
    clear hs hbr
    by_cases hlt : i < m
    · obtain ⟨lb, lo, rfl, hlb, hls⟩ := HX.out.row (by rw [← HM.out]; omega)
      obtain ⟨mb, mo, rfl, hmb, hms⟩ := HY.out.row (by rw [← HN.out]; omega)
      have g1 := (HBr.out.cell (p := ⟨lb, lo + i * 2, none⟩) hlb).trans (hls i (by rw [← HM.out]; exact hlt)).1
      have g2 := (HBr.out.cell (p := ⟨lb, lo + i * 2 + 1, none⟩) hlb).trans (hls i (by rw [← HM.out]; exact hlt)).2
      have g3 := (HBr.out.cell (p := ⟨mb, mo + i * 2, none⟩) hmb).trans (hms i (by rw [← HN.out]; exact hlt)).1
      have g4 := (HBr.out.cell (p := ⟨mb, mo + i * 2 + 1, none⟩) hmb).trans (hms i (by rw [← HN.out]; exact hlt)).2
      clear hls hms
      have hii : (i : Int) < m := by omega
      by_cases e1 : toA xs i = toA ys i
      · by_cases e2 : wtA xs i = wtA ys i
        · have HS2 : Hid (∀ j, j < i + 1 → toA xs j = toA ys j ∧ wtA xs j = wtA ys j) := Lib.hid (fun j hj => by
            by_cases h : j < i
            · exact HS.out j h
            · rw [show j = i by omega]; exact ⟨e1, e2⟩)
          rw [← e1] at g3
          rw [← e2] at g4
          clear e1 e2
          go_wp2
          go_quiet (fail)
          go_wp2
          go_roundw
          case rel => exact ⟨i + 1, by go_num, by omega, HS2.out, by first | exact HBr.out | exact belDraws HBr.out _⟩
          case measure => simp [intOf]; omega
        · have hf : b = false := by rw [HB.out]; exact decide_eq_false fun h => e2 (by rw [h])
          rw [← e1] at g3
          have hq2 : (wtA xs i == wtA ys i) = false := by simpa using e2
          clear e1
          go_wp2
          go_quiet (fail)
          go_wp2
          go_ret
          exact ⟨ret_bool hf.symm, by first | exact HBr.out | exact belDraws HBr.out _⟩
      · have hf : b = false := by rw [HB.out]; exact decide_eq_false fun h => e1 (by rw [h])
        have hq2 : (toA xs i == toA ys i) = false := by simpa using e1
        go_wp2
        go_quiet (fail)
        go_wp2
        go_ret
        exact ⟨ret_bool hf.symm, by first | exact HBr.out | exact belDraws HBr.out _⟩
    · obtain rfl : i = m := by omega
      have hf : b = true := by
        rw [HB.out]
        exact decide_eq_true (terms_ext (by rw [← HM.out, ← HN.out]) (fun j hj => HS.out j (by rw [HM.out]; exact hj)))
      go_wp2
      go_ret
      exact ⟨ret_bool hf.symm, by first | exact HBr.out | exact belDraws HBr.out _⟩
end Go.Proofs.Ytbcndmlhbdanaaa
