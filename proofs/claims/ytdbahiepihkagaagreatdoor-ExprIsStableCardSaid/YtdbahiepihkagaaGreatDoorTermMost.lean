/- What Depth and Nest of the program answer. -/
import Derived.Test.YtdbahiepihkagaaGreatDoorTermR4
namespace Go.Proofs.YtdbahiepihkagaaGreatDoor
open Go.RowKit

def depF (xs : List (Int × Int)) : Int := if oneB xs = true then ((levF xs).1 : Int) else 0
def nesF (xs : List (Int × Int)) : Int := if oneB xs = true then ((levF xs).2 : Int) else 0
def validE (xs : List (Int × Int)) (vars : Int) : Bool := decide (xs.length ≤ 200) && oneB xs && decide (depF xs ≤ 24) && decide (nesF xs ≤ 2) && xs.all fun t => argB t vars

theorem depthR_any (a : Option Addr) (c : Nat) (xs : List (Int × Int)) (w : World) (hX : LinksAt w a xs) (hn : xs.length ≤ 1000) :
    Calls Tryz.prog 80 #[.slice a xs.length c] w fun e w' => e = .returned (.int .i64 (depF xs)) ∧ Below w.heap.size w w' := by
  have HO := Lib.hid (oneR_any a c xs w hX (by omega))
  have HL := Lib.hid (fun (W : World) (hb : Below w.heap.size w W) => levelsR_any a c xs W (hX.below hb) hn)
  unfold depF
  generalize oneB xs = b at HO ⊢
  generalize levF xs = z at HL ⊢
  obtain ⟨d, n⟩ := z
  dsimp only at HL ⊢
  generalize xs.length = m at HO HL ⊢
  clear hX hn
  cases b with
  | false =>
    go_enter Tryz.func80, Tryz.ntmps80
    go_wp2_with (go_at_call 79; refine HO.out.mono ?_; rintro e w1 ⟨rfl, hb1⟩)
    go_ret
    exact ⟨rfl, hb1⟩
  | true =>
    go_enter Tryz.func80, Tryz.ntmps80
    go_wp2_with (first | (go_at_call 79; refine HO.out.mono ?_; rintro e w1 ⟨rfl, hb1⟩) | (go_at_call 143; refine (HL.out _ hb1).mono ?_; rintro e w2 ⟨rfl, hb2⟩))
    go_ret
    exact ⟨rfl, hb1.trans (hb2.mono hb1.size)⟩
theorem nestR_any (a : Option Addr) (c : Nat) (xs : List (Int × Int)) (w : World) (hX : LinksAt w a xs) (hn : xs.length ≤ 1000) :
    Calls Tryz.prog 81 #[.slice a xs.length c] w fun e w' => e = .returned (.int .i64 (nesF xs)) ∧ Below w.heap.size w w' := by
  have HO := Lib.hid (oneR_any a c xs w hX (by omega))
  have HL := Lib.hid (fun (W : World) (hb : Below w.heap.size w W) => levelsR_any a c xs W (hX.below hb) hn)
  unfold nesF
  generalize oneB xs = b at HO ⊢
  generalize levF xs = z at HL ⊢
  obtain ⟨d, n⟩ := z
  dsimp only at HL ⊢
  generalize xs.length = m at HO HL ⊢
  clear hX hn
  cases b with
  | false =>
    go_enter Tryz.func81, Tryz.ntmps81
    go_wp2_with (go_at_call 79; refine HO.out.mono ?_; rintro e w1 ⟨rfl, hb1⟩)
    go_ret
    exact ⟨rfl, hb1⟩
  | true =>
    go_enter Tryz.func81, Tryz.ntmps81
    go_wp2_with (first | (go_at_call 79; refine HO.out.mono ?_; rintro e w1 ⟨rfl, hb1⟩) | (go_at_call 143; refine (HL.out _ hb1).mono ?_; rintro e w2 ⟨rfl, hb2⟩))
    go_ret
    exact ⟨rfl, hb1.trans (hb2.mono hb1.size)⟩
theorem all_upto {xs : List (Int × Int)} {p : Int × Int → Bool} (h : ∀ i, i < xs.length → p (toA xs i, wtA xs i) = true) : xs.all p = true := by
  rw [List.all_eq_true]
  intro x hx
  obtain ⟨i, hi, rfl⟩ := List.mem_iff_getElem.1 hx
  have := h i hi
  simpa [toA, wtA, hi] using this
theorem not_all {xs : List (Int × Int)} {p : Int × Int → Bool} {i : Nat} (hi : i < xs.length) (h : p (toA xs i, wtA xs i) = false) : xs.all p = false := by
  rw [Bool.eq_false_iff]
  intro h2
  rw [List.all_eq_true] at h2
  have := h2 xs[i] (List.getElem_mem hi)
  simp [toA, wtA, hi] at h
  rw [h] at this
  cases this

set_option maxHeartbeats 1000000 in
theorem validR_any (a : Option Addr) (c : Nat) (xs : List (Int × Int)) (vars : Int) (w : World) (hX : LinksAt w a xs) (hn : xs.length ≤ 1000) :
    Calls Tryz.prog 40 #[.slice a xs.length c, .int .i64 vars] w fun e w' => e = .returned (.bool (validE xs vars)) ∧ Below w.heap.size w w' := by
  have HX := Lib.hid hX
  have HO := Lib.hid (fun (W : World) (hb : Below w.heap.size w W) => oneR_any a c xs W (hX.below hb) (by omega))
  have HD := Lib.hid (fun (W : World) (hb : Below w.heap.size w W) => depthR_any a c xs W (hX.below hb) hn)
  have HE := Lib.hid (fun (W : World) (hb : Below w.heap.size w W) => nestR_any a c xs W (hX.below hb) hn)
  obtain ⟨m, hm⟩ : ∃ m, m = xs.length := ⟨_, rfl⟩
  have HM := Lib.hid hm
  obtain ⟨V, hV⟩ : ∃ V, V = validE xs vars := ⟨_, rfl⟩
  rw [← hV]
  unfold validE at hV
  obtain ⟨A, hA⟩ : ∃ A, A = xs.all fun t => argB t vars := ⟨_, rfl⟩
  have HA := Lib.hid hA
  rw [← hA, ← hm] at hV
  rw [← hm] at HO HD HE hn ⊢
  clear hm hX hA
  generalize oneB xs = b at HO hV
  generalize depF xs = d at HD hV
  generalize nesF xs = n at HE hV
  by_cases h1 : m ≤ 200
  case neg =>
    have hf : V = false := by rw [hV]; simp [h1]
    have d1 : decide ((m : Int) > 200) = true := by simp; omega
    clear hV
    go_enter Tryz.func40, Tryz.ntmps40
    go_wp2
    go_ret
    exact ⟨ret_bool hf.symm, by first | exact Below.refl _ _ | exact belDraws (Below.refl _ _) _⟩
  have d1 : decide ((m : Int) > 200) = false := by simp; omega
  have d1' : decide (200 < m) = false := by simp; omega
  cases b with
  | false =>
    have hf : V = false := by rw [hV]; simp
    clear hV
    go_enter Tryz.func40, Tryz.ntmps40
    go_wp2_with (go_at_call 79; refine (HO.out _ (Below.refl _ _)).mono ?_; rintro e w1 ⟨rfl, hb1⟩)
    go_ret
    exact ⟨ret_bool hf.symm, hb1⟩
  | true =>
  by_cases h2 : d ≤ 24
  case neg =>
    have hf : V = false := by rw [hV]; simp [h2]
    have d2 : decide (d > 24) = true := by simp; omega
    clear hV
    go_enter Tryz.func40, Tryz.ntmps40
    go_wp2_with (first | (go_at_call 79; refine (HO.out _ (Below.refl _ _)).mono ?_; rintro e w1 ⟨rfl, hb1⟩) | (go_at_call 80; refine (HD.out _ hb1).mono ?_; rintro e w2 ⟨rfl, hb2⟩))
    go_ret
    exact ⟨ret_bool hf.symm, hb1.trans (hb2.mono hb1.size)⟩
  have d2 : decide (d > 24) = false := by simp; omega
  by_cases h3 : n ≤ 2
  case neg =>
    have hf : V = false := by rw [hV]; simp [h3]
    have d3 : decide (n > 2) = true := by simp; omega
    clear hV
    go_enter Tryz.func40, Tryz.ntmps40
    go_wp2_with (first | (go_at_call 79; refine (HO.out _ (Below.refl _ _)).mono ?_; rintro e w1 ⟨rfl, hb1⟩) | (go_at_call 80; refine (HD.out _ hb1).mono ?_; rintro e w2 ⟨rfl, hb2⟩; have hb12 := hb1.trans (hb2.mono hb1.size)) | (go_at_call 81; refine (HE.out _ hb12).mono ?_; rintro e w3 ⟨rfl, hb3⟩))
    go_ret
    exact ⟨ret_bool hf.symm, hb12.trans (hb3.mono hb12.size)⟩
  have d3 : decide (n > 2) = false := by simp; omega
  have hf : V = A := by rw [hV]; simp [h1, h2, h3]
  have HF := Lib.hid hf
  clear hV hf
  go_enter Tryz.func40, Tryz.ntmps40
  go_wp2_with (first | (go_at_call 79; refine (HO.out _ (Below.refl _ _)).mono ?_; rintro e w1 ⟨rfl, hb1⟩) | (go_at_call 80; refine (HD.out _ hb1).mono ?_; rintro e w2 ⟨rfl, hb2⟩; have hb12 := hb1.trans (hb2.mono hb1.size)) | (go_at_call 81; refine (HE.out _ hb12).mono ?_; rintro e w3 ⟨rfl, hb3⟩))
  have HB3 := Lib.hid (hb12.trans (hb3.mono hb12.size))
  clear hb1 hb2 hb12 hb3
  go_loopw [5] (fun t wr => ∃ i : Nat, t = .int .i64 i ∧ i ≤ m ∧ (∀ j, j < i → argB (toA xs j, wtA xs j) vars = true) ∧ Below w.heap.size w wr) (fun t _ => m - (intOf t).toNat)
  case atStart => exact ⟨0, rfl, Nat.zero_le _, fun j hj => absurd hj (by omega), by first | exact HB3.out | exact belDraws HB3.out _⟩
  case round =>
    obtain ⟨i, rfl, him, hs, hbr⟩ := hrel
    have HS := Lib.hid hs
    have HBr := Lib.hid hbr
    clear hs hbr
    by_cases hlt : i < m
    · obtain ⟨lb, lo, rfl, hlb, hls⟩ := HX.out.row (by rw [← HM.out]; omega)
      have hxl : i < xs.length := by rw [← HM.out]; exact hlt
      have g1 := (HBr.out.cell (p := ⟨lb, lo + i * 2, none⟩) hlb).trans (hls i hxl).1
      have g2 := (HBr.out.cell (p := ⟨lb, lo + i * 2 + 1, none⟩) hlb).trans (hls i hxl).2
      have hii : (i : Int) < m := by omega
      clear hls
      cases hab : argB (toA xs i, wtA xs i) vars with
      | true =>
        have HS2 : Hid (∀ j, j < i + 1 → argB (toA xs j, wtA xs j) vars = true) := Lib.hid (fun j hj => by
          by_cases h : j < i
          · exact HS.out j h
          · rw [show j = i by omega]; exact hab)
        generalize toA xs i = op at g1 hab
        generalize wtA xs i = x at g2 hab
        have HAB := Lib.hid hab
        clear hab
        go_wp2_with (go_at_call 82; refine (argR_any op x vars _).mono ?_; rintro e w4 ⟨rfl, hb4⟩; rw [HAB.out])
        have hb5 := HBr.out.trans (hb4.mono HBr.out.size)
        go_roundw
        case rel => exact ⟨i + 1, by go_num, by omega, HS2.out, hb5⟩
        case measure => simp [intOf]; omega
      | false =>
        have hv : V = false := by
          rw [HF.out, HA.out]
          exact not_all hxl hab
        generalize toA xs i = op at g1 hab
        generalize wtA xs i = x at g2 hab
        have HAB := Lib.hid hab
        clear hab
        go_wp2_with (go_at_call 82; refine (argR_any op x vars _).mono ?_; rintro e w4 ⟨rfl, hb4⟩; rw [HAB.out])
        have hb5 := HBr.out.trans (hb4.mono HBr.out.size)
        go_ret
        exact ⟨ret_bool hv.symm, hb5⟩
    · obtain rfl : i = m := by omega
      have hv : V = true := by
        rw [HF.out, HA.out]
        exact all_upto (fun j hj => HS.out j (by rw [HM.out]; exact hj))
      go_wp2
      go_ret
      exact ⟨ret_bool hv.symm, by first | exact HBr.out | exact belDraws HBr.out _⟩
end Go.Proofs.YtdbahiepihkagaaGreatDoor
namespace Go.Proofs.YtdbahiepihkagaaGreatDoor
open Go.RowKit

/-- the arguments of an operation, as a set -/
def maskG (op : Int) : List (Int × Int) → Nat → Nat
  | [], S => S
  | t :: ts, S => maskG op ts (if t.1 = op then S ||| 2 ^ t.2.toNat else S)
def readsF (op : Int) (xs : List (Int × Int)) : Nat := if validE xs 6 = true then maskG op xs 0 else 0
theorem valid_arg {xs : List (Int × Int)} {vars : Int} (h : validE xs vars = true) {i : Nat} (hi : i < xs.length) : argB (toA xs i, wtA xs i) vars = true := by
  unfold validE at h
  rw [Bool.and_eq_true] at h
  have h2 := h.2
  rw [List.all_eq_true] at h2
  have := h2 xs[i] (List.getElem_mem hi)
  simpa [toA, wtA, hi] using this
theorem arg_var {op x vars : Int} (h : argB (op, x) vars = true) (ho : op = 5 ∨ op = 12) : 0 ≤ x ∧ x < vars := by
  unfold argB at h
  dsimp only at h
  rw [if_neg (by omega), if_pos ho] at h
  simpa using h
theorem valid_len {xs : List (Int × Int)} {vars : Int} (h : validE xs vars = true) : xs.length ≤ 200 := by
  unfold validE at h
  simp only [Bool.and_eq_true, decide_eq_true_eq] at h
  exact h.1.1.1.1

end Go.Proofs.YtdbahiepihkagaaGreatDoor
namespace Go.Proofs.YtdbahiepihkagaaGreatDoor
set_option maxRecDepth 100000
open Go.RowKit Go.Shelf
attribute [local go_sem] Oper.semAt_some

theorem depth1_any (op : Int) (w : World) : Calls Tryz.prog 135 #[.int .i64 op] w fun e w' => e = .returned (.bool (decide (addN true op = 1))) ∧ w' = w := by
  go_enter Tryz.func135, Tryz.ntmps135
  go_wp2
  go_ret
  exact ⟨rfl, rfl⟩
theorem agg1_any (op : Int) (w : World) : Calls Tryz.prog 136 #[.int .i64 op] w fun e w' => e = .returned (.bool (decide (addN false op = 1))) ∧ w' = w := by
  refine (aggP_any op w).mono ?_
  rintro e w' ⟨rfl, rfl⟩
  refine ⟨?_, rfl⟩
  unfold addN aggN
  cases aggF op <;> rfl

theorem one_end (xs : List (Int × Int)) : oneB xs = (endF xs 0 == xs.length) := by
  unfold oneB
  rw [Bool.eq_iff_iff, decide_eq_true_eq, beq_iff_eq]
  refine ⟨fun h => h.2, fun h => ⟨?_, h⟩⟩
  rcases Nat.eq_zero_or_pos xs.length with h0 | h0
  · rw [endF_out (by omega)] at h
    omega
  · exact h0

/-- the stack in memory: its top is the last element -/
def rowT (b : Bool) (xs : List (Int × Int)) (i : Nat) : List Value := ((topF b (xs.drop i)).map fun (v : Nat) => Value.int .i64 (v : Int)).reverse

/-- the beginning of a row of one's own -/
theorem row_cutN {B : Nat} {w : World} {t : TypeId} {g n cap : Nat} {xs : List Value} (q : Nat) (hq : q ≤ n) (h : w.ownsRow B t 1 (.slice (some ⟨g, 0, none⟩) n cap) n xs) : w.ownsRow B t 1 (.slice (some ⟨g, 0, none⟩) q cap) q (xs.take q) := by
  obtain ⟨hl, h⟩ := h
  rw [Nat.mul_one] at hl
  refine ⟨by rw [List.length_take]; omega, ?_⟩
  rcases h with ⟨h, _⟩ | ⟨g', cap', cur, h, hg, hh, hn, hc, hs, ht⟩
  · cases h
  · injection h with e1 e2 e3
    injection e1 with e1
    injection e1 with e1
    subst e1 e3
    refine .inr ⟨g, cap, cur, rfl, hg, hh, by omega, hc, hs, ?_⟩
    rw [← ht, Nat.mul_one, Nat.mul_one, List.take_take, Nat.min_eq_left hq]
/-- another box lies as it lay behind an append that is stored in a box -/
theorem boxed_through {W w1 : World} {n₀ B B' : Nat} {t' e : TypeId} {size : Nat} {u v v' : Value} {k : Nat} {xs : List Value} {tmp : Obj} (hu : Go.Boxed W B' t' u) (ht : t' ≠ e) (hne : B' ≠ B) (hrow : W.ownsRow n₀ e size v k xs) (hg : (W.alloc tmp).grownBy w1 v.ownBlock) : Go.Boxed w1 B' t' u ∧ Go.Boxed (w1.setCell ⟨B, 0, none⟩ v') B' t' u := by
  have h1 := (hu.alloc tmp).kept hg (hu.not_row ht hrow)
  exact ⟨h1, h1.other hne v'⟩
/-- what is stored in the box behind an append: the row that was appended to lay in one's own memory -/
theorem boxed_stored {W w1 : World} {n₀ B : Nat} {t e : TypeId} {size : Nat} {u v v' : Value} {k j : Nat} {xs ys : List Value} {tmp : Obj} (hu : Go.Boxed W B t u) (ht : t ≠ e) (hrow : W.ownsRow n₀ e size v k xs) (hn : n₀ ≤ W.heap.size) (hB : n₀ ≤ B) (hown : w1.ownsRow n₀ e size v' j ys) (hg : (W.alloc tmp).grownBy w1 v.ownBlock) :
    Go.Boxed w1 B t u ∧ Go.Boxed (w1.setCell ⟨B, 0, none⟩ v') B t v' ∧ (w1.setCell ⟨B, 0, none⟩ v').ownsRow n₀ e size v' j ys ∧ KeepsOthers W (w1.setCell ⟨B, 0, none⟩ v') ∧ Below n₀ W (w1.setCell ⟨B, 0, none⟩ v') := by
  have h1 := (hu.alloc tmp).kept hg (hu.not_row ht hrow)
  have hblock : ∀ i o, v.ownBlock = some i → (W.alloc tmp).heap[i]? = some o → o.isCells = true ∧ n₀ ≤ i := by
    intro i o hi ho
    rcases (hrow.alloc tmp).2 with ⟨rfl, _⟩ | ⟨g, cap, cur, rfl, hg0, hgb, _⟩
    · simp [Value.ownBlock] at hi
    · obtain rfl : g = i := by simpa [Value.ownBlock] using hi
      rw [hgb] at ho
      cases ho
      exact ⟨rfl, hg0⟩
  refine ⟨h1, h1.set v', hown.kept (grownBy_setCell' w1 B v') (.inr (h1.not_row ht hown).symm), ?_, ?_⟩
  · exact ((KeepsOthers.alloc W tmp).trans (KeepsOthers.of_grownBy hg fun i o hi ho => (hblock i o hi ho).1)).trans (KeepsOthers.setCell _ _ _)
  · refine (((Below.refl n₀ W).alloc hn tmp).grown hg (by simp; omega) fun i hi => ?_).setCell (p := ⟨B, 0, none⟩) hB v'
    rcases hrow.2 with ⟨rfl, _⟩ | ⟨g, cap, cur, rfl, hg0, hgb, _⟩
    · simp [Value.ownBlock] at hi
    · obtain rfl : g = i := by simpa [Value.ownBlock] using hi
      exact hg0
/-- the operands of a term, as the loop over them finds them -/
theorem ways_part {W : World} {n₀ g cap q K : Nat} {S : List Nat} (hrw : W.ownsRow n₀ 3 1 (.slice (some ⟨g, 0, none⟩) (q + K) cap) (q + K) (S.map fun (v : Nat) => Value.int .i64 (v : Int)).reverse) (hS : S.length = q + K) (hle : ∀ v, v ∈ S → v ≤ 1000) :
    ∃ wv P : Nat → Nat, wv 0 = 0 ∧ (∀ j, j < K → wv (j + 1) = max (wv j) (P j)) ∧ wv K = mxL (S.take K) ∧ (∀ j, j < K → W.cell? ⟨g, q + j, none⟩ = some (.int .i64 (P j : Nat))) ∧ (∀ j, wv j ≤ 1000) ∧ ∀ j, j < K → P j ≤ 1000 := by
  have hl : (S.take K).reverse.length = K := by rw [List.length_reverse, List.length_take]; omega
  refine ⟨fun j => ((S.take K).reverse.take j).foldl max 0, fun j => (S.take K).reverse[j]?.getD 0, rfl, fun j hj => ?_, ?_, fun j hj => ?_, fun j => ?_, fun j hj => ?_⟩
  · show ((S.take K).reverse.take (j + 1)).foldl max 0 = _
    rw [List.take_add_one, List.foldl_append]
    simp [List.getElem?_eq_getElem (show j < (S.take K).reverse.length by rw [hl]; exact hj)]
  · show ((S.take K).reverse.take K).foldl max 0 = _
    rw [List.take_of_length_le (by rw [hl]; omega)]
    rfl
  · rw [hrw.cellAt (q + j) (by omega), ← List.map_reverse, List.getElem?_map]
    have e1 : S.reverse[q + j]? = (S.take K).reverse[j]? := by
      rw [List.getElem?_reverse (by omega), List.getElem?_reverse (by rw [List.length_take]; omega), List.getElem?_take]
      rw [List.length_take, hS, Nat.min_eq_left (by omega), if_pos (by omega)]
      congr 1
      omega
    rw [e1]
    simp [List.getElem?_eq_getElem (show j < (S.take K).reverse.length by rw [hl]; exact hj)]
  · have hgen : ∀ (l : List Nat) (z : Nat), z ≤ 1000 → (∀ v ∈ l, v ≤ 1000) → l.foldl max z ≤ 1000 := by
      intro l
      induction l with
      | nil => exact fun z hz _ => hz
      | cons v l ih =>
        intro z hz h
        have := h v (by simp)
        exact ih (max z v) (by omega) (fun u hu => h u (by simp [hu]))
    exact hgen _ 0 (by omega) (fun v hv => hle v (List.mem_of_mem_take (List.mem_reverse.1 (List.mem_of_mem_take hv))))
  · show (S.take K).reverse[j]?.getD 0 ≤ 1000
    rw [List.getElem?_eq_getElem (by rw [hl]; exact hj)]
    exact hle _ (List.mem_of_mem_take (List.mem_reverse.1 (List.getElem_mem _)))

set_option maxRecDepth 100000 in
set_option maxHeartbeats 4000000 in
theorem mostA_any (a : Option Addr) (c : Nat) (xs : List (Int × Int)) (w : World) (hX : LinksAt w a xs) (hn : xs.length ≤ 1000) (h1 : oneB xs = true) :
    Calls Tryz.prog 134 #[.slice a xs.length c, .func (.func 135) #[] #[]] w fun e w' => e = .returned (.int .i64 (levF xs).1) ∧ Below w.heap.size w w' := by
  have HO := Lib.hid h1
  have he : (endF xs 0 != xs.length) = false := by
    rw [one_end] at h1
    simpa using h1
  have HE := Lib.hid (fun (W : World) (hb : Below w.heap.size w W) => endP_any a c xs 0 W (hX.below hb) (by omega))
  have hpos : 0 < xs.length := by
    rcases Nat.eq_zero_or_pos xs.length with h0 | h0
    · rw [one_end, endF_out (by omega)] at h1
      simp at h1
    · exact h0
  obtain ⟨b, o, rfl, hb, hc⟩ := hX.row hpos
  have HC := Lib.hid hc
  obtain ⟨m, hm⟩ : ∃ m, m = xs.length := ⟨_, rfl⟩
  have HM := Lib.hid hm
  rw [← hm] at HE he hn hpos ⊢
  generalize endF xs 0 = z at HE he
  clear hX hm hc h1
  refine (callsIn_wide (n := 4)).1 ?_
  refine callsIn_of_wp_marks Tryz.func134 rfl trivial ?_ rfl
  simp only [Tryz.ntmps134, List.size_toArray, List.length_cons, List.length_nil, Nat.reduceAdd, Nat.reduceSub, Array.replicate_succ, Array.replicate_zero, List.push_toArray, List.append_toArray, List.nil_append, List.cons_append]
  have hB0 : Below w.heap.size w (w.alloc (.cells #[.func (.func 135) #[] #[]] 118)) := (Below.refl _ w).alloc (Nat.le_refl _) _
  have HE0 := Lib.hid (HE.out _ hB0)
  obtain ⟨i0, hi, hz0, hz1, hz2⟩ := info_parts infoInt
  gi_wp2_with (first | (refine ⟨trivial, ?_⟩; gi_at_call 67; refine (callsIn_wide.2 HE0.out).mono ?_; rintro e w1 ⟨rfl, hb1⟩; have hb1s := hb1.size) | (gi_at_make; refine wpListIn_make_own _ rfl _ _ 137 rfl w.heap.size 3 i0 (.int .i64 0) 1 Tryz.underlying137 hi hz0 hz1 _ _ _ 48 rfl rfl rfl (by omega) (by decide) (by rw [World.size_alloc] at hb1s; omega) ?_; intro w2 hown2 hg2) | (refine ⟨trivial, ?_⟩; gi_at_call 174; refine (back_in Fence.wide _ trivial rfl _ _ _ _).mono ?_; rintro e w3 ⟨rfl, rfl⟩))
  clear HE HE0 hB0 he
  have bC1 : Go.Boxed w1 w.heap.size 118 (.func (.func 135) #[] #[]) := (hb1.block _ (by simp)).trans (Go.Boxed.new w 118 _)
  have bC2 := bC1.kept hg2 (by simp)
  have bC := (bC2.alloc (.cells #[.slice (some ⟨w1.heap.size, 0, none⟩) 0 48] 137)).alloc (.cells #[.slice (some ⟨b, o, none⟩) m c] 25)
  have bW := (Go.Boxed.new w2 137 (.slice (some ⟨w1.heap.size, 0, none⟩) 0 48)).alloc (.cells #[.slice (some ⟨b, o, none⟩) m c] 25)
  have bS := Go.Boxed.new (w2.alloc (.cells #[.slice (some ⟨w1.heap.size, 0, none⟩) 0 48] 137)) 25 (.slice (some ⟨b, o, none⟩) m c)
  rw [World.size_alloc] at bS
  have hrow := (hown2.alloc (.cells #[.slice (some ⟨w1.heap.size, 0, none⟩) 0 48] 137)).alloc (.cells #[.slice (some ⟨b, o, none⟩) m c] 25)
  rw [World.size_alloc] at hb1s
  have hB1 : Below w.heap.size w w1 := ((Below.refl _ w).alloc (Nat.le_refl _) _).trans (hb1.mono (by simp))
  have hB2 : Below w.heap.size w w2 := hB1.grown hg2 (by omega) (fun k e => by cases e)
  have hs2 := hB2.size
  have hB3 := (hB2.alloc hs2 (.cells #[.slice (some ⟨w1.heap.size, 0, none⟩) 0 48] 137)).alloc (by simp; omega) (.cells #[.slice (some ⟨b, o, none⟩) m c] 25)
  have hsz : ((w2.alloc (.cells #[.slice (some ⟨w1.heap.size, 0, none⟩) 0 48] 137)).alloc (.cells #[.slice (some ⟨b, o, none⟩) m c] 25)).heap.size = w2.heap.size + 2 := by simp
  have hbw := bC2.lt
  obtain ⟨W0, hW0⟩ : ∃ W0, (w2.alloc (.cells #[.slice (some ⟨w1.heap.size, 0, none⟩) 0 48] 137)).alloc (.cells #[.slice (some ⟨b, o, none⟩) m c] 25) = W0 := ⟨_, rfl⟩
  rw [hW0] at bC bW bS hrow hB3 hsz ⊢
  clear hW0 bC1 bC2 hown2 hB1 hB2 hb1 hg2
  obtain ⟨Bw, hBw⟩ : ∃ Bw, Bw = w2.heap.size := ⟨_, rfl⟩
  rw [← hBw] at bW bS hsz hbw hs2 ⊢
  obtain ⟨g0, hg0⟩ : ∃ g0, g0 = w1.heap.size := ⟨_, rfl⟩
  rw [← hg0] at bW hrow ⊢
  clear hBw hg0 hb1s
  have hc0 : ∀ i, i < m → W0.cell? ⟨b, o + i * 2, none⟩ = some (.int .i64 (toA xs i)) ∧ W0.cell? ⟨b, o + i * 2 + 1, none⟩ = some (.int .i64 (wtA xs i)) := fun i h =>
    ⟨(hB3.cell (p := ⟨b, o + i * 2, none⟩) hb).trans (HC.out i (by rw [← HM.out]; exact h)).1, (hB3.cell (p := ⟨b, o + i * 2 + 1, none⟩) hb).trans (HC.out i (by rw [← HM.out]; exact h)).2⟩
  have hrounds := back_rounds Fence.wide (4 - 1) trivial rfl (by omega) (Bw + 1) w.heap.size b o m c xs HM.out hpos (by omega) hb W0 (by omega) (by omega) bS.cell hc0
  have hnil : topF true (xs.drop m) = [] := by rw [HM.out, List.drop_length]; rfl
  have hstart : (∃ v, Go.Boxed W0 Bw 137 v ∧ W0.ownsRow w.heap.size 3 1 v (topF true (xs.drop (m - 0))).length (rowT true xs (m - 0)) ∧ ∃ g cap, v = .slice (some ⟨g, 0, none⟩) (topF true (xs.drop (m - 0))).length cap) := by
    refine ⟨_, bW, ?_, g0, 48, ?_⟩
    · unfold rowT
      rw [Nat.sub_zero, hnil]
      exact hrow
    · rw [Nat.sub_zero, hnil]
      rfl
  have HRounds := Lib.hid hrounds
  have HStart := Lib.hid hstart
  have HB3 := Lib.hid hB3
  clear hrounds hstart hc0 hnil hrow hB3 HC
  refine range_rounds rfl (by omega) (gf := 192) (lb := #[.pointer (some ⟨Bw + 1, 0, none⟩)]) rfl trivial (enters_of Tryz.func192 (by kernel_rfl) rfl) HRounds.out (fun _ => rfl)
    (fun h k => h.trans k) (fun W l o1 o2 h1 h2 h3 h4 => KeepsB.put (by omega) W l o1 o2 h1 h2 h3 h4)
    (fun k W => ((∃ v, Go.Boxed W Bw 137 v ∧ W.ownsRow w.heap.size 3 1 v (topF true (xs.drop (m - k))).length (rowT true xs (m - k)) ∧ ∃ g cap, v = .slice (some ⟨g, 0, none⟩) (topF true (xs.drop (m - k))).length cap) ∧ (Go.Boxed W w.heap.size 118 (.func (.func 135) #[] #[]) ∧ Go.Boxed W (Bw + 1) 25 (.slice (some ⟨b, o, none⟩) m c))) ∧ Below w.heap.size w W)
    (OwnFrom.and (OwnFrom.and (Own.from (holdsRow_own w.heap.size Bw 137 3 1 (fun k => (topF true (xs.drop (m - k))).length) (fun k => rowT true xs (m - k)) (fun k v => ∃ g cap, v = .slice (some ⟨g, 0, none⟩) (topF true (xs.drop (m - k))).length cap)) _) (OwnFrom.and (Own.from (boxed_own w.heap.size 118 (fun _ => .func (.func 135) #[] #[])) _) (Own.from (boxed_own (Bw + 1) 25 (fun _ => .slice (some ⟨b, o, none⟩) m c)) _))) (ownFrom_below (Nat.le_refl _) (by omega)))
    ⟨⟨HStart.out, bC, bS⟩, HB3.out⟩
    (fun k a' W => ∃ Bt, Bw + 1 < Bt ∧ W.heap[Bt]? = some (.cells #[.int .i64 (toA xs (m - 1 - k)), .int .i64 (wtA xs (m - 1 - k))] 55 (0, 0)) ∧ a' = { tmps := #[.slice (some ⟨b, o, none⟩) m c, .func (.func 135) #[] #[], undef, .pointer (some ⟨w.heap.size, 0, none⟩), .int .i64 0, .pointer (some ⟨Bw, 0, none⟩), undef, .pointer (some ⟨Bt, 0, none⟩), undef, undef, undef, undef, .slice (some ⟨b, o, none⟩) m c, .int .i64 z, .slice (some ⟨b, o, none⟩) m c, .int .i64 m, .bool false, .slice (some ⟨g0, 0, none⟩) 0 48, .slice (some ⟨b, o, none⟩) m c, .func (.func 192) #[] #[.pointer (some ⟨Bw + 1, 0, none⟩)], .int .i64 ((m - 1 - k : Nat) : Int), .agg #[.int .i64 (toA xs (m - 1 - k)), .int .i64 (wtA xs (m - 1 - k))], undef, undef, undef, undef, undef, undef, undef, undef, undef, undef, undef, undef, undef, undef, undef, undef, undef, undef, undef, undef, undef, undef, undef, undef, undef, undef, undef, undef, undef, undef, undef, undef, undef], defers := [] })
    (fun k a' _ X Y row hs hg hr => by
      obtain ⟨Bt, k1, k2, k3⟩ := hs
      refine ⟨Bt, k1, (hg.block Bt (Array.getElem?_eq_some_iff.1 k2).1 (fun e => ?_)).trans k2, k3⟩
      obtain ⟨_, o', ho, hcc⟩ := hr Bt e.symm
      rw [k2] at ho
      cases ho
      cases hcc)
    ?assign ?body ?done
  case assign =>
    rintro l k W K hk ⟨⟨⟨v, bV, hrw, hsl⟩, bC1, bS1⟩, hB1⟩ hK
    unfold backV
    rw [← HM.out]
    generalize toA xs (m - 1 - k) = op at hK ⊢
    generalize wtA xs (m - 1 - k) = ar at hK ⊢
    gi_wp2
    refine hK _ _ ((KeepsOthers.alloc _ _).from _) ⟨(Below.refl _ W).alloc hB1.size _, fun u hu => ?_⟩ ⟨⟨⟨v, bV.alloc _, hrw.alloc _, hsl⟩, bC1.alloc _, bS1.alloc _⟩, hB1.alloc hB1.size _⟩ ⟨W.heap.size, bS1.lt, World.alloc_heap_new W _, rfl⟩
    rw [(bS1.alloc _).cell, ← bS1.cell]
    exact hu
  case body =>
    rintro l k a' W hk ⟨⟨⟨v, bV, hrw, g, cap, rfl⟩, bC1, bS1⟩, hB1⟩ ⟨Bt, hBt, hT, rfl⟩
    have hmx : Tryz.prog.follows .mixedOrders = true := by kernel_rfl
    obtain ⟨i, hi'⟩ : ∃ i, i = m - 1 - k := ⟨_, rfl⟩
    have hmk : m - k = i + 1 := by omega
    have hmk1 : m - (k + 1) = i := by omega
    have hix : i < xs.length := by rw [← HM.out]; omega
    rw [hmk] at hrw bV
    simp only [hmk1]
    rw [← hi'] at hT ⊢
    obtain ⟨hr1, hr2⟩ := top_room HO.out true hix
    have hst := top_step (xs := xs) true hix
    have hle := fun v (h : v ∈ topF true (xs.drop (i + 1))) => topF_le true _ v h
    have hlen := topF_len true (xs.drop (i + 1))
    rw [List.length_drop] at hle hlen
    unfold rowT at hrw ⊢
    simp only [hst]
    clear hst hi' hmk hmk1
    generalize toA xs i = op at hT hr1 hr2 ⊢
    generalize wtA xs i = ar at hT ⊢
    generalize topF true (xs.drop (i + 1)) = S at hrw bV hle hlen hr2 ⊢
    obtain ⟨K, hK⟩ : ∃ K : Nat, arF op = K := ⟨(arF op).toNat, by omega⟩
    rw [hK, Int.toNat_natCast] at hr2 ⊢
    have HK := Lib.hid hK
    clear hK hr1
    have cW := bV.cell
    have fW := bV.frozen
    have cC := bC1.cell
    have cT : W.cell? ⟨Bt, 0, none⟩ = some (.int .i64 op) := by simp [World.cell?, hT]
    have hrl := row_cap hrw
    have hS1 := hle
    obtain ⟨q, hq⟩ : ∃ q, S.length = q + K := ⟨S.length - K, by omega⟩
    rw [hq] at hrw bV cW hrl
    obtain ⟨wv, P, w0, w1', w2', w3, w4, w5⟩ := ways_part hrw hq (fun v h => by have := hle v h; have := HM.out; omega)
    have hs1 : IntKind.i64.wrap ((q : Int) + (K : Int) - (K : Int)) = (q : Int) := by
      rw [IntKind.wrap_i64]
      have := hrl.2
      unfold maxLen at this
      omega
    have hs2 : IntKind.i64.wrap (q : Int) = (q : Int) := by
      rw [IntKind.wrap_i64]
      have := hrl.2
      unfold maxLen at this
      omega
    gi_wp2
    refine wpIn_mono (?hreg : Code.wpIn _ _ _ _ (fun e a' w' => e = Exit.normal ∧ a' = { tmps := #[.slice (some ⟨b, o, none⟩) m c, .func (.func 135) #[] #[], undef, .pointer (some ⟨w.heap.size, 0, none⟩), .int .i64 0, .pointer (some ⟨Bw, 0, none⟩), undef, .pointer (some ⟨Bt, 0, none⟩), .int .i64 q, undef, undef, undef, .slice (some ⟨b, o, none⟩) m c, .int .i64 z, .slice (some ⟨b, o, none⟩) m c, .int .i64 m, .bool false, .slice (some ⟨g0, 0, none⟩) 0 48, .slice (some ⟨b, o, none⟩) m c, .func (.func 192) #[] #[.pointer (some ⟨Bw + 1, 0, none⟩)], .int .i64 i, .agg #[.int .i64 op, .int .i64 ar], .slice (some ⟨g, 0, none⟩) (q + K) cap, .int .i64 ((q + K : Nat) : Int), .pointer (some ⟨Bt, 0, none⟩), .int .i64 op, .int .i64 K, .int .i64 q, undef, undef, undef, undef, undef, undef, undef, undef, undef, undef, undef, undef, undef, undef, undef, undef, undef, undef, undef, undef, undef, undef, undef, undef, undef, undef, undef], defers := [] } ∧ w' = W.drew) _ _) ?hpost
    case hreg =>
      gi_region_with_o (refine ⟨trivial, ?_⟩; gi_at_call 85; refine (CallsIn.inRound l (callsIn_wide.2 (arityP_any op _))).mono ?_; rintro e w' ⟨rfl, rfl⟩; rw [HK.out])
      all_goals exact ⟨rfl, by first | rfl | (simp only [hs1, hs2, Int.natCast_add]; done) | (simp only [hs1, hs2, Int.natCast_add]; rfl), rfl⟩
    case hpost =>
      rintro e a' w' ⟨rfl, rfl, rfl⟩
      have cW2 : W.drew.cell? ⟨Bw, 0, none⟩ = some (.slice (some ⟨g, 0, none⟩) (q + K) cap) := cW
      have cC2 : W.drew.cell? ⟨w.heap.size, 0, none⟩ = some (.func (.func 135) #[] #[]) := cC
      have cT2 : W.drew.cell? ⟨Bt, 0, none⟩ = some (.int .i64 op) := cT
      have cP : ∀ j, j < K → W.drew.cell? ⟨g, q + j, none⟩ = some (.int .i64 (P j : Nat)) := w3
      have hcut := row_cutN q (by omega) hrw
      have hrest : (S.map fun (v : Nat) => Value.int .i64 (v : Int)).reverse.take q = ((S.drop K).map fun (v : Nat) => Value.int .i64 (v : Int)).reverse := by
        rw [List.take_reverse, List.length_map, hq, show q + K - q = K by omega, List.map_drop]
      rw [hrest] at hcut
      have hdl : (S.drop K).length = q := by rw [List.length_drop]; omega
      have hsd : W.drew.heap.size = W.heap.size := rfl
      have hBd : Below w.heap.size W W.drew := belDraws (Below.refl _ _) 1
      have hBs := hB1.size
      have HCut := Lib.hid (show W.drew.ownsRow w.heap.size 3 1 (.slice (some ⟨g, 0, none⟩) q cap) q ((S.drop K).map fun (v : Nat) => Value.int .i64 (v : Int)).reverse from hcut)
      have HP := Lib.hid cP
      have H1 := Lib.hid w1'
      have H2 := Lib.hid w2'
      have H4 := Lib.hid w4
      have H5 := Lib.hid w5
      have H0 := Lib.hid w0
      have HbV := Lib.hid (show Go.Boxed W.drew Bw 137 (.slice (some ⟨g, 0, none⟩) (q + K) cap) from bV)
      have HbC := Lib.hid (show Go.Boxed W.drew w.heap.size 118 (.func (.func 135) #[] #[]) from bC1)
      have HbS := Lib.hid (show Go.Boxed W.drew (Bw + 1) 25 (.slice (some ⟨b, o, none⟩) m c) from bS1)
      have HDl := Lib.hid hdl
      have HBd := Lib.hid hBd
      have HB1 := Lib.hid hB1
      have hadd := addN_le true op
      have hmax := hrl.2
      unfold maxLen at hmax
      have hq1 : q ≤ 1000 := by
        have := HM.out
        omega
      clear hs1 hcut hrest hdl cP w0 w1' w2' w3 w4 w5 bV bC1 bS1 hBd hle hS1 hrw hlen hT cW cC cT hB1
      by_cases hcq : cap = q
      all_goals try (have hcq2 := hcq.symm; subst hcq2)
      all_goals
        gi_wp2
        gi_loopw [9, 32] (fun s t wr => ∃ j : Nat, t = .int .i64 j ∧ j ≤ K ∧ s = .int .i64 (wv j : Nat) ∧ wr = W.drew) (fun _ t _ => K - (intOf t).toNat)
        case atStart => exact ⟨0, rfl, Nat.zero_le _, by rw [H0.out]; rfl, rfl⟩
        case round =>
          obtain ⟨j, rfl, hj, rfl, rfl⟩ := hrel
          by_cases hlt : j < K
          · have hmx2 : (wv j < P j ∧ wv (j + 1) = P j) ∨ (P j ≤ wv j ∧ wv (j + 1) = wv j) := by
              have := H1.out j hlt
              omega
            have cj := HP.out j hlt
            have k4 := H4.out j
            have k5 := H5.out j hlt
            obtain ⟨pj, hpj⟩ : ∃ pj, P j = pj := ⟨_, rfl⟩
            obtain ⟨vj, hvj⟩ : ∃ vj, wv j = vj := ⟨_, rfl⟩
            rw [hpj] at hmx2 cj k5
            rw [hvj] at hmx2 k4 ⊢
            rcases hmx2 with ⟨hm1, hm2⟩ | ⟨hm1, hm2⟩
            all_goals try (exfalso; omega)
            all_goals
              have HM2 := Lib.hid hm2
              clear hm2
              gi_wp2
              go_roundw
              case rel => exact ⟨j + 1, by go_num, by omega, by rw [HM2.out], by first | rfl | trivial⟩
              case measure => first | (simp [intOf]; done) | (simp [intOf]; omega)
          · obtain rfl : j = K := by omega
            have hfin := H2.out
            have k4 := H4.out j
            obtain ⟨vj, hvj⟩ : ∃ vj, wv j = vj := ⟨_, rfl⟩
            rw [hvj] at k4 hfin ⊢
            have HFin := Lib.hid hfin
            clear hfin hvj
            rcases (show addN true op = 0 ∨ addN true op = 1 by omega) with had | had
            all_goals
              have HAdd := Lib.hid had
              clear had
              gi_wp2_with (first | (refine ⟨trivial, ?_⟩; gi_at_call 135; refine (CallsIn.inRound l (callsIn_wide.2 (depth1_any op _))).mono ?_; rintro e w' ⟨rfl, rfl⟩; rw [HAdd.out]) | (gi_at_builtin; refine wpListIn_append_own _ rfl _ _ 137 rfl w.heap.size 3 i0 (.int .i64 0) 1 8 Tryz.underlying137 hi hz0 hz1 hz2 rfl (by decide) _ q _ rfl (HCut.out.alloc _) ⟨W.heap.size, 0, none⟩ 1 1 [_] rfl rfl (cell_one_new _ _ _) (by simp [Value.oneCell']) (by unfold maxLen; omega) (by omega) (by simp; omega) ?_; intro v' w4 hown4 hg4 _; obtain ⟨g', cap', rfl⟩ := ownsRow_succ hown4; obtain ⟨hv1, hv2, hr2, hk2, hb2⟩ := boxed_stored HbV.out (by decide) HCut.out (by omega) (by omega) hown4 hg4; obtain ⟨_, hc2⟩ := boxed_through HbC.out (B := Bw) (v' := .slice (some ⟨g', 0, none⟩) (q + 1) cap') (by decide) (by omega) HCut.out hg4; obtain ⟨_, hd2⟩ := boxed_through HbS.out (B := Bw) (v' := .slice (some ⟨g', 0, none⟩) (q + 1) cap') (by decide) (by omega) HCut.out hg4; have hc1 := hv1.cell; have hf1 := hv1.frozen))
              all_goals
                rw [← HFin.out, HAdd.out]
                try rw [Nat.add_zero]
                have hcell := HbS.out.cell
                have hdl2 := HDl.out
                have hkb := HBd.out.trans hb2
                have hrow2 : ∀ v : Nat, ((v :: S.drop j).map fun (v : Nat) => Value.int .i64 (v : Int)).reverse = ((S.drop j).map fun (v : Nat) => Value.int .i64 (v : Int)).reverse ++ [.int .i64 (v : Int)] := fun v => by simp
                have hlen2 : ∀ v : Nat, (v :: S.drop j).length = q + 1 := fun v => by rw [List.length_cons, hdl2]
                unfold roundEnd
                dsimp only
                refine ⟨((KeepsOthers.drew W).trans hk2).from _, ⟨hkb, fun u hu => ?_⟩, ⟨⟨_, hv2, ?_, g', cap', ?_⟩, hc2, hd2⟩, HB1.out.trans hkb⟩
                · rw [hd2.cell, ← hcell]
                  exact hu
                · rw [hrow2, hlen2]
                  first
                    | exact hr2
                    | (rw [Int.natCast_add]; exact hr2)
                · rw [hlen2]
  case done =>
    rintro D W hD ⟨⟨⟨v, bV, hrw, g, cap, rfl⟩, bC1, bS1⟩, hB1⟩ hK
    have htop := top_whole HO.out true
    rw [if_pos rfl] at htop
    rw [Nat.sub_self, List.drop_zero, htop] at bV hrw
    unfold rowT at hrw
    rw [List.drop_zero, htop] at hrw
    have cW := bV.cell
    have c0 := hrw.cellAt 0 (by simp)
    obtain ⟨d, hd⟩ : ∃ d, (levF xs).1 = d := ⟨_, rfl⟩
    rw [hd] at c0
    have HD := Lib.hid hd
    have c1 : W.cell? ⟨g, 0, none⟩ = some (.int .i64 (d : Int)) := by rw [c0]; rfl
    have HB1 := Lib.hid hB1
    clear hB1 c0 hrw bV htop hd
    gi_wp2
    refine ⟨by simp, .inl ⟨_, _, rfl, run_takeDeferred hK, ?_⟩⟩
    refine ⟨_, results_tmp rfl _ _ _, by rw [HD.out]; rfl, HB1.out.trans (belowK_b (w := w) (Nat.le_refl _) W D _ _ (by omega) hK rfl rfl)⟩
end Go.Proofs.YtdbahiepihkagaaGreatDoor
