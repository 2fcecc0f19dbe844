/- What Arity, aggregate, variable, End and Operand of the program answer. -/
import Derived.Test.YtdbahiepihkagaaGreatDoorTermR
namespace Go.Proofs.YtdbahiepihkagaaGreatDoor
open Go.RowKit

theorem oneR_any (a : Option Addr) (c : Nat) (xs : List (Int × Int)) (w : World) (hX : LinksAt w a xs) (hn : xs.length ≤ 1000000) :
    Calls Tryz.prog 79 #[.slice a xs.length c] w fun e w' => e = .returned (.bool (oneB xs)) ∧ Below w.heap.size w w' := by
  have HE := Lib.hid (endR_any a c xs 0 w hX hn)
  have HO : Hid (oneB xs = (decide (0 < xs.length) && (endF xs 0 == xs.length))) := Lib.hid (by unfold oneB; rw [Bool.eq_iff_iff]; simp)
  generalize oneB xs = b at HO ⊢
  generalize endF xs 0 = z at HO HE
  obtain ⟨m, hm⟩ : ∃ m, m = xs.length := ⟨_, rfl⟩
  rw [← hm] at HO HE hn ⊢
  clear hm hX
  by_cases h0 : 0 < m
  · have d0 : decide ((m : Int) > 0) = true := by simp; omega
    have hb : b = (z == m) := by rw [HO.out]; simp [h0]
    go_enter Tryz.func79, Tryz.ntmps79
    go_wp2_with (go_at_call 45; refine HE.out.mono ?_; rintro e w1 ⟨rfl, hb1⟩)
    go_ret
    exact ⟨ret_bool hb.symm, hb1⟩
  · obtain rfl : m = 0 := by omega
    have hb : b = false := by rw [HO.out]; simp
    go_enter Tryz.func79, Tryz.ntmps79
    go_wp2
    go_ret
    exact ⟨ret_bool hb.symm, by first | exact Below.refl _ _ | exact belDraws (Below.refl _ _) _⟩

theorem argR_any (op x vars : Int) (w : World) :
    Calls Tryz.prog 82 #[.agg #[.int .i64 op, .int .i64 x], .int .i64 vars] w fun e w' => e = .returned (.bool (argB (op, x) vars)) ∧ Below w.heap.size w w' := by
  have hbel : ∀ n, Below w.heap.size w ((w.alloc (.cells #[.int .i64 op, .int .i64 x] 55)).drewN n) := fun n => belDraws ((Below.refl _ _).alloc (Nat.le_refl _) _) n
  have HB := Lib.hid hbel
  have HB0 := Lib.hid ((Below.refl w.heap.size w).alloc (Nat.le_refl _) (.cells #[.int .i64 op, .int .i64 x] 55))
  have h0 : argB (op, x) vars = argB (op, x) vars := rfl
  conv at h0 => rhs; unfold argB
  dsimp only at h0
  clear hbel
  by_cases h1 : op = 1
  · subst h1
    rw [if_pos rfl] at h0
    have HE := Lib.hid h0
    generalize argB (1, x) vars = b at HE ⊢
    clear h0
    by_cases g0 : 0 ≤ x
    all_goals by_cases g1 : x ≤ 1073741824
    all_goals first
      | omega
      | (go_enter Tryz.func82, Tryz.ntmps82
         go_wp2
         try (go_quiet (fail); go_wp2)
         go_ret
         exact ⟨ret_bool (by rw [HE.out, Bool.eq_iff_iff] <;> simp <;> omega), by first | exact HB0.out | exact HB.out _⟩)
  · rw [if_neg h1] at h0
    by_cases h5 : op = 5 ∨ op = 12
    · rw [if_pos h5] at h0
      have HE := Lib.hid h0
      clear h0
      rcases h5 with rfl | rfl
      all_goals generalize argB _ vars = b at HE ⊢
      all_goals by_cases g0 : 0 ≤ x
      all_goals by_cases g1 : x < vars
      all_goals
        have g2 : decide (0 ≤ x) = decide (0 ≤ x) := rfl
        conv at g2 => rhs; simp only [g0, decide_true, decide_false]
        go_enter Tryz.func82, Tryz.ntmps82
        go_wp2
        try (go_quiet (fail); go_wp2)
        go_ret
        exact ⟨ret_bool (by rw [HE.out, Bool.eq_iff_iff] <;> simp <;> omega), by first | exact HB0.out | exact HB.out _⟩
    · rw [if_neg h5] at h0
      have HE := Lib.hid h0
      generalize argB (op, x) vars = b at HE ⊢
      clear h0
      have q1 : (op == 1) = false := by simpa using h1
      have q5 : (op == 5) = false := by rw [beq_eq_false_iff_ne]; exact fun h => h5 (.inl h)
      have q12 : (op == 12) = false := by rw [beq_eq_false_iff_ne]; exact fun h => h5 (.inr h)
      clear h1 h5
      go_enter Tryz.func82, Tryz.ntmps82
      go_wp2
      try (go_quiet (fail); go_wp2)
      go_ret
      exact ⟨ret_bool (by rw [HE.out, Bool.eq_iff_iff] <;> simp), by first | exact HB0.out | exact HB.out _⟩

/-- a struct of two numbers, compared -/
theorem sameR_any (a a' : Option Addr) (c c' : Nat) (xs ys : List (Int × Int)) (w : World) (hX : LinksAt w a xs) (hY : LinksAt w a' ys) (hn : xs.length ≤ 1000000) (hn2 : ys.length ≤ 1000000) :
    Calls Tryz.prog 18 #[.slice a xs.length c, .slice a' ys.length c'] w fun e w' => e = .returned (.bool (decide (xs = ys))) ∧ Below w.heap.size w w' := by
  have HX := Lib.hid hX
  have HY := Lib.hid hY
  obtain ⟨m, hm⟩ : ∃ m, m = xs.length := ⟨_, rfl⟩
  obtain ⟨n, hn'⟩ : ∃ n, n = ys.length := ⟨_, rfl⟩
  have HM := Lib.hid hm
  have HN := Lib.hid hn'
  rw [← hm] at hn ⊢
  rw [← hn'] at hn2 ⊢
  clear hm hn' hX hY
  by_cases hmn : m = n
  case neg =>
    have hf : decide (xs = ys) = false := decide_eq_false fun h => hmn (by rw [HM.out, HN.out, h])
    have d : ((m : Int) != n) = true := by simp; omega
    generalize decide (xs = ys) = b at hf ⊢
    go_enter Tryz.func18, Tryz.ntmps18
    go_wp2
    go_ret
    exact ⟨ret_bool hf.symm, by first | exact Below.refl _ _ | exact belDraws (Below.refl _ _) _⟩
  subst hmn
  obtain ⟨b, hb⟩ : ∃ b, b = decide (xs = ys) := ⟨_, rfl⟩
  have HB := Lib.hid hb
  rw [← hb]
  clear hb
  have d : ((m : Int) != m) = false := by simp
  go_enter Tryz.func18, Tryz.ntmps18
  go_wp2
  go_loopw [5] (fun t wr => ∃ i : Nat, t = .int .i64 i ∧ i ≤ m ∧ (∀ j, j < i → toA xs j = toA ys j ∧ wtA xs j = wtA ys j) ∧ Below w.heap.size w wr) (fun t _ => m - (intOf t).toNat)
  case atStart => exact ⟨0, rfl, Nat.zero_le _, fun j hj => absurd hj (by omega), by first | exact Below.refl _ _ | exact belDraws (Below.refl _ _) _⟩
  case round =>
    obtain ⟨i, rfl, hi, hs, hbr⟩ := hrel
    have HS := Lib.hid hs
    have HBr := Lib.hid hbr
    clear hs hbr
    by_cases hlt : i < m
    · obtain ⟨lb, lo, rfl, hlb, hls⟩ := HX.out.row (by rw [← HM.out]; omega)
      obtain ⟨mb, mo, rfl, hmb, hms⟩ := HY.out.row (by rw [← HN.out]; omega)
      have g1 := (HBr.out.cell (p := ⟨lb, lo + i * 2, none⟩) hlb).trans (hls i (by rw [← HM.out]; exact hlt)).1
      have g2 := (HBr.out.cell (p := ⟨lb, lo + i * 2 + 1, none⟩) hlb).trans (hls i (by rw [← HM.out]; exact hlt)).2
      have g3 := (HBr.out.cell (p := ⟨mb, mo + i * 2, none⟩) hmb).trans (hms i (by rw [← HN.out]; exact hlt)).1
      have g4 := (HBr.out.cell (p := ⟨mb, mo + i * 2 + 1, none⟩) hmb).trans (hms i (by rw [← HN.out]; exact hlt)).2
      clear hls hms
      have hii : (i : Int) < m := by omega
      by_cases e1 : toA xs i = toA ys i
      · by_cases e2 : wtA xs i = wtA ys i
        · have HS2 : Hid (∀ j, j < i + 1 → toA xs j = toA ys j ∧ wtA xs j = wtA ys j) := Lib.hid (fun j hj => by
            by_cases h : j < i
            · exact HS.out j h
            · rw [show j = i by omega]; exact ⟨e1, e2⟩)
          rw [← e1] at g3
          rw [← e2] at g4
          clear e1 e2
          go_wp2
          go_quiet (fail)
          go_wp2
          go_roundw
          case rel => exact ⟨i + 1, by go_num, by omega, HS2.out, by first | exact HBr.out | exact belDraws HBr.out _⟩
          case measure => simp [intOf]; omega
        · have hf : b = false := by rw [HB.out]; exact decide_eq_false fun h => e2 (by rw [h])
          rw [← e1] at g3
          have hq2 : (wtA xs i == wtA ys i) = false := by simpa using e2
          clear e1
          go_wp2
          go_quiet (fail)
          go_wp2
          go_ret
          exact ⟨ret_bool hf.symm, by first | exact HBr.out | exact belDraws HBr.out _⟩
      · have hf : b = false := by rw [HB.out]; exact decide_eq_false fun h => e1 (by rw [h])
        have hq2 : (toA xs i == toA ys i) = false := by simpa using e1
        go_wp2
        go_quiet (fail)
        go_wp2
        go_ret
        exact ⟨ret_bool hf.symm, by first | exact HBr.out | exact belDraws HBr.out _⟩
    · obtain rfl : i = m := by omega
      have hf : b = true := by
        rw [HB.out]
        exact decide_eq_true (terms_ext (by rw [← HM.out, ← HN.out]) (fun j hj => HS.out j (by rw [HM.out]; exact hj)))
      go_wp2
      go_ret
      exact ⟨ret_bool hf.symm, by first | exact HBr.out | exact belDraws HBr.out _⟩
end Go.Proofs.YtdbahiepihkagaaGreatDoor
namespace Go.Proofs.YtdbahiepihkagaaGreatDoor
open Go.RowKit

set_option maxHeartbeats 1000000 in
theorem operandR_any (a : Option Addr) (c : Nat) (xs : List (Int × Int)) (p k : Int) (w : World) (hX : LinksAt w a xs) (hn : xs.length ≤ 1000000) :
    Calls Tryz.prog 47 #[.slice a xs.length c, .int .i64 p, .int .i64 k] w fun e w' => e = .returned (.int .i64 (opdF xs p k)) ∧ Below w.heap.size w w' := by
  have HE : Hid (∀ (W : World) (q : Int), Below w.heap.size w W → Calls Tryz.prog 45 #[.slice a xs.length c, .int .i64 q] W fun e w' => e = .returned (.int .i64 (endF xs q)) ∧ Below W.heap.size W w') := Lib.hid (fun W q hb => endR_any a c xs q W (hX.below hb) hn)
  have HX := Lib.hid hX
  obtain ⟨m, hm⟩ : ∃ m, m = xs.length := ⟨_, rfl⟩
  have HM := Lib.hid hm
  rw [← hm] at HE hn ⊢
  clear hm hX
  by_cases he : endF xs p < 0
  · have hf : opdF xs p k = -1 := by unfold opdF; rw [if_pos (.inl he)]
    have d0 : decide (endF xs p < 0) = true := by simpa using he
    generalize opdF xs p k = z at hf ⊢
    subst hf
    have HEp := HE.out w p (Below.refl _ _)
    generalize endF xs p = y at HEp d0
    clear HE he
    have HEp := Lib.hid HEp
    go_enter Tryz.func47, Tryz.ntmps47
    go_wp2_with (go_at_call 45; refine HEp.out.mono ?_; rintro e w1 ⟨rfl, hb1⟩)
    go_ret
    exact ⟨rfl, hb1⟩
  obtain ⟨hp0, hp1⟩ := endF_in he
  rw [← HM.out] at hp1
  obtain ⟨q, rfl⟩ : ∃ q : Nat, p = q := ⟨p.toNat, by omega⟩
  have d0 : decide (endF xs q < 0) = false := by simpa using he
  have HEp := Lib.hid (HE.out w q (Below.refl _ _))
  by_cases hk : 0 ≤ k
  case neg =>
    have hf : opdF xs q k = -1 := by unfold opdF; rw [if_pos (.inr (.inl (by omega)))]
    generalize opdF xs q k = z at hf ⊢
    subst hf
    have d1 : decide (k < 0) = true := by simp; omega
    generalize endF xs q = y at HEp d0
    clear HE he
    go_enter Tryz.func47, Tryz.ntmps47
    go_wp2_with (go_at_call 45; refine HEp.out.mono ?_; rintro e w1 ⟨rfl, hb1⟩)
    go_ret
    exact ⟨rfl, hb1⟩
  obtain ⟨b, o, rfl, hb, hc⟩ := HX.out.row (by rw [← HM.out]; omega)
  have hcq := (hc q (by rw [← HM.out]; omega)).1
  have HCq := Lib.hid hcq
  have hak := arF_le (toA xs q)
  have hop : opdF xs q k = if arF (toA xs q) ≤ k then -1 else placeF xs q k.toNat := by
    unfold opdF
    rw [Int.toNat_natCast]
    by_cases h : arF (toA xs q) ≤ k
    · rw [if_pos (.inr (.inr h)), if_pos h]
    · rw [if_neg (by omega), if_neg h]
  have hpl := fun j => placeF_le (xs := xs) (p := q) (by rw [← HM.out]; omega) j
  have HPl := Lib.hid hpl
  have d1 : decide (k < 0) = false := by simp; omega
  have hi1 : (q : Int) < m := by omega
  clear hc hcq hpl
  generalize opdF xs q k = z at hop ⊢
  have HOp := Lib.hid hop
  generalize toA xs q = op at HCq hak HOp
  obtain ⟨r, hr⟩ : ∃ r, arF op = r := ⟨_, rfl⟩
  have HR := Lib.hid hr
  rw [hr] at HOp hak
  clear hop hr
  by_cases hkr : r ≤ k
  · have d2 : decide (k ≥ r) = true := by simpa using hkr
    have hz : z = -1 := by rw [HOp.out, if_pos hkr]
    subst hz
    generalize endF xs q = y at HEp d0
    clear HE he HOp
    go_enter Tryz.func47, Tryz.ntmps47
    go_wp2_with (first | (go_at_call 45; refine HEp.out.mono ?_; rintro e w1 ⟨rfl, hb1⟩; have c1 := (hb1.cell (p := ⟨b, o + q * 2, none⟩) hb).trans HCq.out) | (go_at_call 46; refine (arityR_any op _).mono ?_; rintro e w2 ⟨rfl, rfl⟩; rw [HR.out]))
    go_ret
    exact ⟨rfl, hb1⟩
  · have d2 : decide (k ≥ r) = false := by simp; omega
    have hz : z = placeF xs q k.toNat := by rw [HOp.out, if_neg hkr]
    obtain ⟨n, rfl⟩ : ∃ n : Nat, k = n := ⟨k.toNat, by omega⟩
    rw [Int.toNat_natCast] at hz
    have HZ := Lib.hid hz
    clear hz HOp
    generalize endF xs q = y at HEp d0
    clear he
    go_enter Tryz.func47, Tryz.ntmps47
    go_wp2_with (first | (go_at_call 45; refine HEp.out.mono ?_; rintro e w1 ⟨rfl, hb1⟩; have c1 := (hb1.cell (p := ⟨b, o + q * 2, none⟩) hb).trans HCq.out) | (go_at_call 46; refine (arityR_any op _).mono ?_; rintro e w2 ⟨rfl, rfl⟩; rw [HR.out]))
    have HB1 := Lib.hid hb1
    clear hb1 c1
    go_loopw [7, 8] (fun s t wr => ∃ i : Nat, t = .int .i64 i ∧ i ≤ n ∧ s = .int .i64 (placeF xs q i) ∧ Below w.heap.size w wr) (fun _ t _ => n - (intOf t).toNat)
    case atStart => exact ⟨0, rfl, Nat.zero_le _, rfl, by first | exact HB1.out | exact belDraws HB1.out _⟩
    case round =>
      obtain ⟨i, rfl, hi, rfl, hbr⟩ := hrel
      have HBr := Lib.hid hbr
      clear hbr
      by_cases hlt : i < n
      · have hs : placeF xs q (i + 1) = endF xs (placeF xs q i) := rfl
        have HS := Lib.hid hs
        have HEi := Lib.hid (HE.out wr (placeF xs q i) HBr.out)
        clear hs
        go_wp2_with (go_at_call 45; refine HEi.out.mono ?_; rintro e w3 ⟨rfl, hb3⟩)
        have hb4 := HBr.out.trans (hb3.mono HBr.out.size)
        go_roundw
        case rel => exact ⟨i + 1, by go_num, by omega, by rw [HS.out], hb4⟩
        case measure => simp [intOf]; omega
      · obtain rfl : i = n := by omega
        have hz := HZ.out
        generalize placeF xs q i = y2 at hz ⊢
        subst hz
        go_wp2
        go_ret
        exact ⟨rfl, by first | exact HBr.out | exact belDraws HBr.out _⟩
end Go.Proofs.YtdbahiepihkagaaGreatDoor
namespace Go.Proofs.YtdbahiepihkagaaGreatDoor
set_option maxRecDepth 100000
open Go.RowKit

set_option linter.unusedSimpArgs false in
theorem arityP_any (op : Int) (w : World) : Calls Tryz.prog 85 #[.int .i64 op] w fun e w' => e = .returned (.int .i64 (arF op)) ∧ w' = w := by
  by_cases h1 : op < 1
  all_goals by_cases h2 : op > 43
  all_goals by_cases h3 : op < 18
  all_goals by_cases h4 : op < 30
  all_goals by_cases h5 : op < 43
  all_goals first
    | omega
    | (have h9 : arF op = if op < 1 ∨ op > 43 then -1 else if op < 18 then 0 else if op < 30 then 1 else if op < 43 then 2 else 3 := by
         unfold arF
         repeat' split
         all_goals omega
       simp only [h1, h2, h3, h4, h5, or_true, true_or, or_false, false_or, if_true, if_false] at h9
       go_enter Tryz.func85, Tryz.ntmps85
       go_wp2
       go_ret
       exact ⟨by first | rfl | exact ret_int h9.symm, rfl⟩)
theorem aggP_any (op : Int) (w : World) : Calls Tryz.prog 136 #[.int .i64 op] w fun e w' => e = .returned (.bool (aggF op)) ∧ w' = w := by
  unfold aggF
  by_cases h1 : 20 ≤ op
  all_goals by_cases h2 : op ≤ 29
  all_goals first
    | omega
    | (go_enter Tryz.func136, Tryz.ntmps136
       go_wp2
       go_ret
       exact ⟨ret_bool (by rw [Bool.eq_iff_iff] <;> simp <;> omega), rfl⟩)

/-- the count goes on: v expressions are wanted -/
def Want (xs : List (Int × Int)) (q i v : Nat) : Prop := (v = 0 → endF xs q = i) ∧ (∀ u, v = u + 1 → Amid xs q i u)
set_option maxHeartbeats 1000000 in
theorem endP_any (a : Option Addr) (c : Nat) (xs : List (Int × Int)) (p : Int) (w : World) (hX : LinksAt w a xs) (hn : xs.length ≤ 1000000) :
    Calls Tryz.prog 67 #[.slice a xs.length c, .int .i64 p] w fun e w' => e = .returned (.int .i64 (endF xs p)) ∧ Below w.heap.size w w' := by
  by_cases h0 : 0 ≤ p
  case neg =>
    have he : endF xs p = -1 := endF_out (by omega)
    generalize endF xs p = z at he ⊢
    subst he
    generalize xs.length = m
    clear hX hn
    go_enter Tryz.func67, Tryz.ntmps67
    go_wp2
    go_ret
    exact ⟨rfl, by first | exact Below.refl _ _ | exact belDraws (Below.refl _ _) _⟩
  obtain ⟨q, rfl⟩ : ∃ q : Nat, p = q := ⟨p.toNat, by omega⟩
  have d3 : decide ((q : Int) < 0) = false := by simp
  obtain ⟨m, hm⟩ : ∃ m, m = xs.length := ⟨_, rfl⟩
  have HM := Lib.hid hm
  have HX := Lib.hid hX
  have hst : q ≤ m → Want xs q q 1 := fun h => ⟨fun h => by omega, fun u hu => (by
    have h1 : u = 0 := by omega
    rw [h1]
    exact Amid.start (by rw [← HM.out]; exact h))⟩
  have HSt := Lib.hid hst
  rw [← hm] at hn ⊢
  clear hst hX hm
  go_enter Tryz.func67, Tryz.ntmps67
  go_wp2
  go_loopw [1, 5] (fun t s wr => ∃ i v : Nat, t = .int .i64 i ∧ s = .int .i64 v ∧ v ≤ 2 * i + 1 ∧ ((i ≤ m ∧ Want xs q i v) ∨ (m < q ∧ i = q ∧ v = 1)) ∧ Below w.heap.size w wr) (fun t _ _ => m - (intOf t).toNat)
  case atStart =>
    refine ⟨q, 1, rfl, rfl, by omega, ?_, by first | exact Below.refl _ _ | exact belDraws (Below.refl _ _) _⟩
    by_cases h : q ≤ m
    · exact .inl ⟨h, HSt.out h⟩
    · exact .inr ⟨by omega, rfl, rfl⟩
  case round =>
    obtain ⟨i, v, rfl, rfl, hv, hA, hbr⟩ := hrel
    have HBr := Lib.hid hbr
    clear hbr HSt
    by_cases hlt : i < m
    · have hxl : i < xs.length := by rw [← HM.out]; exact hlt
      obtain ⟨b, o, rfl, hb, hc⟩ := HX.out.row (by omega)
      have c0 := (HBr.out.cell (p := ⟨b, o + i * 2, none⟩) hb).trans (hc i hxl).1
      have hw : Want xs q i v := by
        rcases hA with h | h
        · exact h.2
        · omega
      clear hA hc
      have hak := arF_le (toA xs i)
      have d1 : decide ((i : Int) ≥ m) = false := by simp; omega
      have d2 : decide (m ≤ i) = false := by simp; omega
      have hi0 : (0 : Int) ≤ i := by omega
      have hi1 : (i : Int) < m := by omega
      cases v with
      | zero =>
        have hz0 : decide (((0 : Nat) : Int) > 0) = false := by simp
        have he := hw.1 rfl
        clear hw c0 hak
        go_wp2
        go_ret
        exact ⟨ret_int he.symm, by first | exact HBr.out | exact belDraws HBr.out _⟩
      | succ v =>
        have hA := hw.2 v rfl
        have dv : decide ((v : Int) + 1 > 0) = true := by (first | (simp; done) | (simp; omega))
        have HN : Hid (∀ n : Nat, 0 ≤ arF (toA xs i) → (n : Int) + 1 = v + arF (toA xs i) → Amid xs q (i + 1) n) := Lib.hid (fun n => hA.next (v := n) hxl)
        have HB := Lib.hid (hA.bad hxl)
        have HF : Hid (v = 0 → arF (toA xs i) = 0 → endF xs q = (i + 1 : Nat)) := Lib.hid (fun h0 ha => by subst h0; exact hA.found hxl ha)
        clear hw hA
        generalize toA xs i = op at c0 hak HN HB HF
        obtain ⟨k, hk⟩ : ∃ k, arF op = k := ⟨_, rfl⟩
        rw [hk] at hak HN HB HF
        have HK := Lib.hid hk
        clear hk
        by_cases hk0 : 0 ≤ k
        · obtain ⟨n, rfl⟩ : ∃ n : Nat, k = n := ⟨k.toNat, by omega⟩
          have n0 : decide ((n : Int) < 0) = false := by simp
          have hwn : Want xs q (i + 1) (v + n) := ⟨fun h => HF.out (by omega) (by omega), fun u hu => HN.out u (by omega) (by omega)⟩
          have HWn := Lib.hid hwn
          clear HN HB HF hwn
          go_wp2_with (go_at_call 85; refine (arityP_any op _).mono ?_; rintro e w1 ⟨rfl, rfl⟩; rw [HK.out])
          go_roundw
          case rel =>
            exact ⟨i + 1, v + n, by go_num, by first | go_num | (congr 1; omega), by omega, .inl ⟨hlt, HWn.out⟩, by first | exact HBr.out | exact belDraws HBr.out _⟩
          case measure => simp [intOf]; omega
        · have he := HB.out (by omega)
          have n0 : decide (k < 0) = true := by simp; omega
          clear HN HB HF
          go_wp2_with (go_at_call 85; refine (arityP_any op _).mono ?_; rintro e w1 ⟨rfl, rfl⟩; rw [HK.out])
          go_ret
          exact ⟨ret_int he.symm, by first | exact HBr.out | exact belDraws HBr.out _⟩
    · have d1 : decide ((i : Int) ≥ m) = true := by simp; omega
      cases v with
      | zero =>
        have hz0 : decide (((0 : Nat) : Int) > 0) = false := by simp
        have he : endF xs q = i := by
          rcases hA with h | h
          · exact h.2.1 rfl
          · omega
        clear hA
        go_wp2
        go_ret
        exact ⟨ret_int he.symm, by first | exact HBr.out | exact belDraws HBr.out _⟩
      | succ v =>
        have dv : decide ((v : Int) + 1 > 0) = true := by (first | (simp; done) | (simp; omega))
        have he : endF xs q = -1 := by
          rcases hA with h | h
          · obtain rfl : i = m := by omega
            have h2 := h.2.2 v rfl
            rw [HM.out] at h2
            exact h2.over
          · exact endF_out (by rw [← HM.out]; omega)
        clear hA
        go_wp2
        go_ret
        exact ⟨ret_int he.symm, by first | exact HBr.out | exact belDraws HBr.out _⟩

end Go.Proofs.YtdbahiepihkagaaGreatDoor
