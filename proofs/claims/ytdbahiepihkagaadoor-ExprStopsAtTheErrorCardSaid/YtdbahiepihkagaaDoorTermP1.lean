/- What Arity, aggregate, variable, End and Operand of the program answer. -/
import Derived.Test.YtdbahiepihkagaaDoorTermR
namespace Go.Proofs.YtdbahiepihkagaaDoor
open Go.RowKit

end Go.Proofs.YtdbahiepihkagaaDoor
namespace Go.Proofs.YtdbahiepihkagaaDoor
open Go.RowKit

end Go.Proofs.YtdbahiepihkagaaDoor
namespace Go.Proofs.YtdbahiepihkagaaDoor
set_option maxRecDepth 100000
open Go.RowKit

set_option linter.unusedSimpArgs false in
theorem arityP_any (op : Int) (w : World) : Calls Tryd.prog 41 #[.int .i64 op] w fun e w' => e = .returned (.int .i64 (arF op)) ∧ w' = w := by
  by_cases h1 : op < 1
  all_goals by_cases h2 : op > 43
  all_goals by_cases h3 : op < 18
  all_goals by_cases h4 : op < 30
  all_goals by_cases h5 : op < 43
  all_goals first
    | omega
    | (have h9 : arF op = if op < 1 ∨ op > 43 then -1 else if op < 18 then 0 else if op < 30 then 1 else if op < 43 then 2 else 3 := by
         unfold arF
         repeat' split
         all_goals omega
       simp only [h1, h2, h3, h4, h5, or_true, true_or, or_false, false_or, if_true, if_false] at h9
       go_enter Tryd.func41, Tryd.ntmps41
       go_wp2
       go_ret
       exact ⟨by first | rfl | exact ret_int h9.symm, rfl⟩)
theorem aggP_any (op : Int) (w : World) : Calls Tryd.prog 61 #[.int .i64 op] w fun e w' => e = .returned (.bool (aggF op)) ∧ w' = w := by
  unfold aggF
  by_cases h1 : 20 ≤ op
  all_goals by_cases h2 : op ≤ 29
  all_goals first
    | omega
    | (go_enter Tryd.func61, Tryd.ntmps61
       go_wp2
       go_ret
       exact ⟨ret_bool (by rw [Bool.eq_iff_iff] <;> simp <;> omega), rfl⟩)

/-- the count goes on: v expressions are wanted -/
def Want (xs : List (Int × Int)) (q i v : Nat) : Prop := (v = 0 → endF xs q = i) ∧ (∀ u, v = u + 1 → Amid xs q i u)
set_option maxHeartbeats 1000000 in
theorem endP_any (a : Option Addr) (c : Nat) (xs : List (Int × Int)) (p : Int) (w : World) (hX : LinksAt w a xs) (hn : xs.length ≤ 1000000) :
    Calls Tryd.prog 33 #[.slice a xs.length c, .int .i64 p] w fun e w' => e = .returned (.int .i64 (endF xs p)) ∧ Below w.heap.size w w' := by
  by_cases h0 : 0 ≤ p
  case neg =>
    have he : endF xs p = -1 := endF_out (by omega)
    generalize endF xs p = z at he ⊢
    subst he
    generalize xs.length = m
    clear hX hn
    go_enter Tryd.func33, Tryd.ntmps33
    go_wp2
    go_ret
    exact ⟨rfl, by first | exact Below.refl _ _ | exact belDraws (Below.refl _ _) _⟩
  obtain ⟨q, rfl⟩ : ∃ q : Nat, p = q := ⟨p.toNat, by omega⟩
  have d3 : decide ((q : Int) < 0) = false := by simp
  obtain ⟨m, hm⟩ : ∃ m, m = xs.length := ⟨_, rfl⟩
  have HM := Lib.hid hm
  have HX := Lib.hid hX
  have hst : q ≤ m → Want xs q q 1 := fun h => ⟨fun h => by omega, fun u hu => (by
    have h1 : u = 0 := by omega
    rw [h1]
    exact Amid.start (by rw [← HM.out]; exact h))⟩
  have HSt := Lib.hid hst
  rw [← hm] at hn ⊢
  clear hst hX hm
  go_enter Tryd.func33, Tryd.ntmps33
  go_wp2
  go_loopw [1, 5] (fun t s wr => ∃ i v : Nat, t = .int .i64 i ∧ s = .int .i64 v ∧ v ≤ 2 * i + 1 ∧ ((i ≤ m ∧ Want xs q i v) ∨ (m < q ∧ i = q ∧ v = 1)) ∧ Below w.heap.size w wr) (fun t _ _ => m - (intOf t).toNat)
  case atStart =>
    refine ⟨q, 1, rfl, rfl, by omega, ?_, by first | exact Below.refl _ _ | exact belDraws (Below.refl _ _) _⟩
    by_cases h : q ≤ m
    · exact .inl ⟨h, HSt.out h⟩
    · exact .inr ⟨by omega, rfl, rfl⟩
  case round =>
    obtain ⟨i, v, rfl, rfl, hv, hA, hbr⟩ := hrel
    have HBr := Lib.hid hbr
    clear hbr HSt
    by_cases hlt : i < m
    · have hxl : i < xs.length := by rw [← HM.out]; exact hlt
      obtain ⟨b, o, rfl, hb, hc⟩ := HX.out.row (by omega)
      have c0 := (HBr.out.cell (p := ⟨b, o + i * 2, none⟩) hb).trans (hc i hxl).1
      have hw : Want xs q i v := by
        rcases hA with h | h
        · exact h.2
        · omega
      clear hA hc
      have hak := arF_le (toA xs i)
      have d1 : decide ((i : Int) ≥ m) = false := by simp; omega
      have d2 : decide (m ≤ i) = false := by simp; omega
      have hi0 : (0 : Int) ≤ i := by omega
      have hi1 : (i : Int) < m := by omega
      cases v with
      | zero =>
        have hz0 : decide (((0 : Nat) : Int) > 0) = false := by simp
        have he := hw.1 rfl
        clear hw c0 hak
        go_wp2
        go_ret
        exact ⟨ret_int he.symm, by first | exact HBr.out | exact belDraws HBr.out _⟩
      | succ v =>
        have hA := hw.2 v rfl
        have dv : decide ((v : Int) + 1 > 0) = true := by (first | (simp; done) | (simp; omega))
        have HN : Hid (∀ n : Nat, 0 ≤ arF (toA xs i) → (n : Int) + 1 = v + arF (toA xs i) → Amid xs q (i + 1) n) := Lib.hid (fun n => hA.next (v := n) hxl)
        have HB := Lib.hid (hA.bad hxl)
        have HF : Hid (v = 0 → arF (toA xs i) = 0 → endF xs q = (i + 1 : Nat)) := Lib.hid (fun h0 ha => by subst h0; exact hA.found hxl ha)
        clear hw hA
        generalize toA xs i = op at c0 hak HN HB HF
        obtain ⟨k, hk⟩ : ∃ k, arF op = k := ⟨_, rfl⟩
        rw [hk] at hak HN HB HF
        have HK := Lib.hid hk
        clear hk
        by_cases hk0 : 0 ≤ k
        · obtain ⟨n, rfl⟩ : ∃ n : Nat, k = n := ⟨k.toNat, by omega⟩
          have n0 : decide ((n : Int) < 0) = false := by simp
          have hwn : Want xs q (i + 1) (v + n) := ⟨fun h => HF.out (by omega) (by omega), fun u hu => HN.out u (by omega) (by omega)⟩
          have HWn := Lib.hid hwn
          clear HN HB HF hwn
          go_wp2_with (go_at_call 41; refine (arityP_any op _).mono ?_; rintro e w1 ⟨rfl, rfl⟩; rw [HK.out])
          go_roundw
          case rel =>
            exact ⟨i + 1, v + n, by go_num, by first | go_num | (congr 1; omega), by omega, .inl ⟨hlt, HWn.out⟩, by first | exact HBr.out | exact belDraws HBr.out _⟩
          case measure => simp [intOf]; omega
        · have he := HB.out (by omega)
          have n0 : decide (k < 0) = true := by simp; omega
          clear HN HB HF
          go_wp2_with (go_at_call 41; refine (arityP_any op _).mono ?_; rintro e w1 ⟨rfl, rfl⟩; rw [HK.out])
          go_ret
          exact ⟨ret_int he.symm, by first | exact HBr.out | exact belDraws HBr.out _⟩
    · have d1 : decide ((i : Int) ≥ m) = true := by simp; omega
      cases v with
      | zero =>
        have hz0 : decide (((0 : Nat) : Int) > 0) = false := by simp
        have he : endF xs q = i := by
          rcases hA with h | h
          · exact h.2.1 rfl
          · omega
        clear hA
        go_wp2
        go_ret
        exact ⟨ret_int he.symm, by first | exact HBr.out | exact belDraws HBr.out _⟩
      | succ v =>
        have dv : decide ((v : Int) + 1 > 0) = true := by (first | (simp; done) | (simp; omega))
        have he : endF xs q = -1 := by
          rcases hA with h | h
          · obtain rfl : i = m := by omega
            have h2 := h.2.2 v rfl
            rw [HM.out] at h2
            exact h2.over
          · exact endF_out (by rw [← HM.out]; omega)
        clear hA
        go_wp2
        go_ret
        exact ⟨ret_int he.symm, by first | exact HBr.out | exact belDraws HBr.out _⟩

end Go.Proofs.YtdbahiepihkagaaDoor
