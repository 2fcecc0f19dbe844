/- What Valid of the program answers. -/
import Derived.Test.YtbcndmlhbdanaaaTermP2
namespace Go.Proofs.Ytbcndmlhbdanaaa
open Go.RowKit

theorem valid1_any (op x vars : Int) (vb : Nat) (w : World) (hv : w.cell? ⟨vb, 0, none⟩ = some (.int .i64 vars)) (hlt : vb < w.heap.size) (h64 : I64 vars) :
    Calls Try.prog 42 #[.agg #[.int .i64 op, .int .i64 x], .pointer (some ⟨vb, 0, none⟩)] w fun e w' => e = .returned (.bool (!argB (op, x) vars)) ∧ Below w.heap.size w w' := by
  have hB0 := (Below.refl w.heap.size w).alloc (Nat.le_refl _) (.cells #[.int .i64 op, .int .i64 x] 41)
  have hvb := (hB0.cell (p := ⟨vb, 0, none⟩) hlt).trans hv
  have HR := Lib.hid (rangeP_any op x vars (w.alloc (.cells #[.int .i64 op, .int .i64 x] 41)) h64)
  generalize argB (op, x) vars = b at HR ⊢
  clear hB0
  go_enter Try.func42, Try.ntmps42
  go_wp2_with (go_at_call 43; refine HR.out.mono ?_; rintro e w1 ⟨rfl, hb1⟩)
  go_ret
  exact ⟨rfl, belT hb1⟩

set_option maxHeartbeats 400000 in
theorem idxT_any (la : Option Addr) (lc : Nat) (xs : List (Int × Int)) (vars : Int) (vb : Nat) (w : World) (hL : LinksAt w la xs) (hv : w.cell? ⟨vb, 0, none⟩ = some (.int .i64 vars)) (hvb : vb < w.heap.size) (h64 : I64 vars) :
    Calls Try.prog 47 #[.slice la xs.length lc, .func (Fn.func 42) #[] #[.pointer (some ⟨vb, 0, none⟩)]] w fun e w' => (∃ z : Int, e = .returned (.int .i64 z) ∧ decide (z ≥ 0) = !(xs.all fun t => argB t vars)) ∧ Below w.heap.size w w' := by
  have hlm := hL.size
  unfold maxLen at hlm
  go_enter Try.func47, Try.ntmps47
  go_wp2
  go_loopw [8] (fun t wr => ∃ k : Nat, k ≤ xs.length ∧ t = .int .i64 k ∧ (∀ j, j < k → argB (toA xs j, wtA xs j) vars = true) ∧ Below w.heap.size w wr) (fun t _ => xs.length - (intOf t).toNat)
  case atStart => exact ⟨0, Nat.zero_le _, rfl, fun j hj => absurd hj (by omega), Below.refl _ _⟩
  case round =>
    obtain ⟨k, hk, rfl, hn, hbel⟩ := hrel
    have Hn := Lib.hid hn
    have Hv := Lib.hid hv
    clear hn hv
    by_cases hlt : k < xs.length
    · obtain ⟨lb, lo, rfl, hlb, hcs⟩ := (hL.below hbel).row (by omega)
      have hck1 := (hcs k hlt).1
      have hck2 := (hcs k hlt).2
      have HX := Lib.hid hcs
      clear hcs
      have HR := Lib.hid (valid1_any (toA xs k) (wtA xs k) vars vb wr ((hbel.cell (p := ⟨vb, 0, none⟩) hvb).trans Hv.out) (Nat.lt_of_lt_of_le hvb hbel.size) h64)
      cases he : argB (toA xs k, wtA xs k) vars with
      | false =>
        have Hp : Hid (decide ((k : Int) ≥ 0) = !(xs.all fun t => argB t vars)) := Lib.hid (by rw [not_all hlt he]; simp)
        rw [he] at HR
        clear he
        generalize toA xs k = op at hck1 HR
        generalize wtA xs k = x at hck2 HR
        go_wp2_with (go_at_call 42; refine HR.out.mono ?_; rintro e w2 ⟨rfl, hb2⟩)
        go_ret
        exact ⟨⟨_, rfl, Hp.out⟩, hbel.trans (hb2.mono hbel.size)⟩
      | true =>
        have He := Lib.hid he
        have HR2 := HR
        rw [he] at HR2
        clear he HR
        obtain ⟨op, hop⟩ : ∃ op, toA xs k = op := ⟨_, rfl⟩
        obtain ⟨x, hx⟩ : ∃ x, wtA xs k = x := ⟨_, rfl⟩
        rw [hop] at hck1 HR2
        rw [hx] at hck2 HR2
        clear hop hx
        go_wp2_with (go_at_call 42; refine HR2.out.mono ?_; rintro e w2 ⟨rfl, hb2⟩)
        go_roundw
        case rel => exact ⟨k + 1, by omega, by go_num, fun j hj => by
          rcases Nat.lt_or_ge j k with h | h
          · exact Hn.out j h
          · rw [show j = k by omega]; exact He.out, hbel.trans (hb2.mono hbel.size)⟩
        case measure => simp [intOf]; omega
    · have Hp : Hid (decide ((-1 : Int) ≥ 0) = !(xs.all fun t => argB t vars)) := Lib.hid (by rw [all_upto (fun j hj => Hn.out j (by omega))]; rfl)
      go_wp2
      go_ret
      exact ⟨⟨_, rfl, Hp.out⟩, hbel⟩
theorem contT_any (la : Option Addr) (lc : Nat) (xs : List (Int × Int)) (vars : Int) (vb : Nat) (w : World) (hL : LinksAt w la xs) (hv : w.cell? ⟨vb, 0, none⟩ = some (.int .i64 vars)) (hvb : vb < w.heap.size) (h64 : I64 vars) :
    Calls Try.prog 41 #[.slice la xs.length lc, .func (Fn.func 42) #[] #[.pointer (some ⟨vb, 0, none⟩)]] w fun e w' => e = .returned (.bool (!(xs.all fun t => argB t vars))) ∧ Below w.heap.size w w' := by
  have HI := Lib.hid (idxT_any la lc xs vars vb w hL hv hvb h64)
  generalize (!(xs.all fun t => argB t vars)) = b at HI ⊢
  generalize xs.length = m at HI ⊢
  clear hL hv hvb h64
  go_enter Try.func41, Try.ntmps41
  go_wp2_with (go_at_call 47; refine HI.out.mono ?_; rintro e w1 ⟨⟨z, rfl, hz⟩, hb1⟩)
  go_ret
  exact ⟨by first | rfl | exact ret_bool hz, hb1⟩

set_option maxHeartbeats 1000000 in
theorem validP_any (a : Option Addr) (c : Nat) (xs : List (Int × Int)) (vars : Int) (w : World) (hX : LinksAt w a xs) (hn : xs.length ≤ 1000) (h64 : I64 vars) :
    Calls Try.prog 26 #[.slice a xs.length c, .int .i64 vars] w fun e w' => e = .returned (.bool (validE xs vars)) ∧ Below w.heap.size w w' := by
  have hB0 := (Below.refl w.heap.size w).alloc (Nat.le_refl _) (.cells #[.int .i64 vars] 3)
  have HB0 := Lib.hid hB0
  have HE := Lib.hid (endP_any a c xs 0 (w.alloc (.cells #[.int .i64 vars] 3)) (hX.below hB0) (by omega))
  have HD := Lib.hid (fun (W : World) (hb : Below w.heap.size w W) => depthP_any a c xs W (hX.below hb) hn)
  have HN := Lib.hid (fun (W : World) (hb : Below w.heap.size w W) => nestP_any a c xs W (hX.below hb) hn)
  have HC := Lib.hid (fun (W : World) (hb : Below w.heap.size w W) (hc : W.cell? ⟨w.heap.size, 0, none⟩ = some (.int .i64 vars)) (hl : w.heap.size < W.heap.size) => contT_any a c xs vars w.heap.size W (hX.below hb) hc hl h64)
  have h1 : oneB xs = (endF xs 0 == xs.length) := one_end xs
  obtain ⟨V, hV⟩ : ∃ V, V = validE xs vars := ⟨_, rfl⟩
  rw [← hV]
  unfold validE at hV
  rw [h1] at hV
  obtain ⟨A, hA⟩ : ∃ A, A = xs.all fun t => argB t vars := ⟨_, rfl⟩
  rw [← hA] at hV HC
  clear hA h1 hX hB0
  generalize depF xs = d at HD hV
  generalize nesF xs = n at HN hV
  generalize endF xs 0 = z at HE hV
  generalize xs.length = m at HE HD HN HC hn hV ⊢
  by_cases q1 : m ≤ 200
  case neg =>
    have hf : V = false := by rw [hV]; simp [q1]
    have d1 : decide ((m : Int) > 200) = true := by simp; omega
    clear hV
    go_enter Try.func26, Try.ntmps26
    go_wp2
    go_ret
    exact ⟨ret_bool hf.symm, by first | exact HB0.out | exact belDraws HB0.out _⟩
  have d1 : decide ((m : Int) > 200) = false := by simp; omega
  have d1' : decide (200 < m) = false := by simp; omega
  by_cases q2 : z = m
  case neg =>
    have hf : V = false := by rw [hV]; simp [q2]
    have d2 : (z != m) = true := by simpa using q2
    clear hV q2
    go_enter Try.func26, Try.ntmps26
    go_wp2_with (go_at_call 14; refine HE.out.mono ?_; rintro e w1 ⟨rfl, hb1⟩)
    go_ret
    exact ⟨ret_bool hf.symm, belT hb1⟩
  have d2 : (z != m) = false := by simpa using q2
  have q2' : (z == m) = true := by simpa using q2
  rw [q2'] at hV
  clear q2 q2'
  by_cases q3 : d ≤ 24
  case neg =>
    have hf : V = false := by rw [hV]; simp [q3]
    have d3 : decide (d > 24) = true := by simp; omega
    clear hV
    go_enter Try.func26, Try.ntmps26
    go_wp2_with (first | (go_at_call 14; refine HE.out.mono ?_; rintro e w1 ⟨rfl, hb1⟩; have hb2 := belT hb1) | (go_at_call 18; refine (HD.out _ hb2).mono ?_; rintro e w3 ⟨rfl, hb3⟩))
    go_ret
    exact ⟨ret_bool hf.symm, hb2.trans (hb3.mono hb2.size)⟩
  have d3 : decide (d > 24) = false := by simp; omega
  by_cases q4 : n ≤ 2
  case neg =>
    have hf : V = false := by rw [hV]; simp [q4]
    have d4 : decide (n > 2) = true := by simp; omega
    clear hV
    go_enter Try.func26, Try.ntmps26
    go_wp2_with (first | (go_at_call 14; refine HE.out.mono ?_; rintro e w1 ⟨rfl, hb1⟩; have hb2 := belT hb1) | (go_at_call 18; refine (HD.out _ hb2).mono ?_; rintro e w3 ⟨rfl, hb3⟩; have hb4 := hb2.trans (hb3.mono hb2.size)) | (go_at_call 20; refine (HN.out _ hb4).mono ?_; rintro e w5 ⟨rfl, hb5⟩))
    go_ret
    exact ⟨ret_bool hf.symm, hb4.trans (hb5.mono hb4.size)⟩
  have d4 : decide (n > 2) = false := by simp; omega
  have hf : V = A := by rw [hV]; simp [q1, q3, q4]
  have HF := Lib.hid hf
  clear hV hf
  go_enter Try.func26, Try.ntmps26
  go_wp2_with (first | (go_at_call 14; refine HE.out.mono ?_; rintro e w1 ⟨rfl, hb1⟩; have hb2 := belT hb1) | (go_at_call 18; refine (HD.out _ hb2).mono ?_; rintro e w3 ⟨rfl, hb3⟩; have hb4 := hb2.trans (hb3.mono hb2.size)) | (go_at_call 20; refine (HN.out _ hb4).mono ?_; rintro e w5 ⟨rfl, hb5⟩; have hb6 := hb4.trans (hb5.mono hb4.size); have hb7 := hb1.trans ((hb3.mono hb1.size).trans (hb5.mono (Nat.le_trans hb1.size hb3.size))); have hc7 : w5.cell? ⟨w.heap.size, 0, none⟩ = some (.int .i64 vars) := boxT hb7 0; have hl7 : w.heap.size < w5.heap.size := by have h := hb7.size; rw [World.size_alloc] at h; omega) | (go_at_call 41; refine (HC.out _ hb6 hc7 hl7).mono ?_; rintro e w8 ⟨rfl, hb8⟩))
  go_ret
  exact ⟨ret_bool (by rw [HF.out] <;> simp), hb6.trans (hb8.mono hb6.size)⟩
end Go.Proofs.Ytbcndmlhbdanaaa
