/- What Reads of the specification of layer 5 answers. -/
import Derived.Test.YtbcndmlhbdanaaaTermR5
namespace Go.Proofs.Ytbcndmlhbdanaaa
open Go.RowKit

/-- the arguments of an operation, as a set -/
def maskG (op : Int) : List (Int × Int) → Nat → Nat
  | [], S => S
  | t :: ts, S => maskG op ts (if t.1 = op then S ||| 2 ^ t.2.toNat else S)
def readsF (op : Int) (xs : List (Int × Int)) : Nat := if validE xs 6 = true then maskG op xs 0 else 0
theorem valid_arg {xs : List (Int × Int)} {vars : Int} (h : validE xs vars = true) {i : Nat} (hi : i < xs.length) : argB (toA xs i, wtA xs i) vars = true := by
  unfold validE at h
  rw [Bool.and_eq_true] at h
  have h2 := h.2
  rw [List.all_eq_true] at h2
  have := h2 xs[i] (List.getElem_mem hi)
  simpa [toA, wtA, hi] using this
theorem arg_var {op x vars : Int} (h : argB (op, x) vars = true) (ho : op = 5 ∨ op = 12) : 0 ≤ x ∧ x < vars := by
  unfold argB at h
  dsimp only at h
  rw [if_neg (by omega), if_pos ho] at h
  simpa using h
theorem valid_len {xs : List (Int × Int)} {vars : Int} (h : validE xs vars = true) : xs.length ≤ 200 := by
  unfold validE at h
  simp only [Bool.and_eq_true, decide_eq_true_eq] at h
  exact h.1.1.1.1

set_option maxHeartbeats 1000000 in
theorem readsR_any (a : Option Addr) (c : Nat) (xs : List (Int × Int)) (w : World) (hX : LinksAt w a xs) (hn : xs.length ≤ 1000) :
    Calls Try.prog 25 #[.slice a xs.length c] w fun e w' => e = .returned (.tuple #[.int .u32 (readsF 5 xs), .int .u32 (readsF 12 xs)]) ∧ Below w.heap.size w w' := by
  have HX := Lib.hid hX
  have HVc := Lib.hid (validR_any a c xs 6 w hX hn)
  obtain ⟨m, hm⟩ : ∃ m, m = xs.length := ⟨_, rfl⟩
  have HM := Lib.hid hm
  unfold readsF
  rw [← hm] at HVc hn ⊢
  clear hm hX
  cases hv : validE xs 6 with
  | false =>
    simp only [Bool.false_eq_true, if_false]
    go_enter Try.func25, Try.ntmps25
    go_wp2_with (go_at_call 27; refine HVc.out.mono ?_; rintro e w1 ⟨rfl, hb1⟩; rw [hv])
    refine bodyPost_ret (v := .tuple #[.int .u32 0, .int .u32 0]) (by first | rfl | (simp [results]; done) | (kernel_rfl)) rfl ?_
    exact ⟨rfl, hb1⟩
  | true =>
    have HA := Lib.hid (fun i hi => valid_arg (i := i) hv hi)
    simp only [if_true]
    obtain ⟨r1, hr1⟩ : ∃ r, r = maskG 5 xs 0 := ⟨_, rfl⟩
    obtain ⟨r2, hr2⟩ : ∃ r, r = maskG 12 xs 0 := ⟨_, rfl⟩
    rw [← hr1, ← hr2]
    have HR1 := Lib.hid hr1
    have HR2 := Lib.hid hr2
    clear hr1 hr2
    go_enter Try.func25, Try.ntmps25
    go_wp2_with (go_at_call 27; refine HVc.out.mono ?_; rintro e w1 ⟨rfl, hb1⟩; rw [hv])
    have HB1 := Lib.hid hb1
    clear hb1
    go_loopw [4, 5, 6] (fun s u t wr => ∃ i S T : Nat, s = .int .u32 S ∧ u = .int .u32 T ∧ t = .int .i64 i ∧ i ≤ m ∧ S < 4294967296 ∧ T < 4294967296 ∧ maskG 5 (xs.drop i) S = r1 ∧ maskG 12 (xs.drop i) T = r2 ∧ Below w.heap.size w wr) (fun _ _ t _ => m - (intOf t).toNat)
    case atStart => exact ⟨0, 0, 0, rfl, rfl, rfl, Nat.zero_le _, by decide, by decide, HR1.out.symm, HR2.out.symm, by first | exact HB1.out | exact belDraws HB1.out _⟩
    case round =>
      obtain ⟨i, S, T, rfl, rfl, rfl, him, hS, hT, h1, h2, hbr⟩ := hrel
      have HBr := Lib.hid hbr
      have HS := Lib.hid hS
      have HT := Lib.hid hT
      clear hbr hS hT
      by_cases hlt : i < m
      · obtain ⟨lb, lo, rfl, hlb, hls⟩ := HX.out.row (by rw [← HM.out]; omega)
        have hxl : i < xs.length := by rw [← HM.out]; exact hlt
        have g1 := (HBr.out.cell (p := ⟨lb, lo + i * 2, none⟩) hlb).trans (hls i hxl).1
        have g2 := (HBr.out.cell (p := ⟨lb, lo + i * 2 + 1, none⟩) hlb).trans (hls i hxl).2
        have hab := HA.out i hxl
        rw [drop_at hxl] at h1 h2
        unfold maskG at h1 h2
        dsimp only at h1 h2
        have hii : (i : Int) < m := by omega
        clear hls
        generalize toA xs i = op at g1 h1 h2 hab
        generalize wtA xs i = x at g2 h1 h2 hab
        by_cases e5 : op = 5
        · subst e5
          have hx := arg_var hab (.inl rfl)
          obtain ⟨d, rfl⟩ : ∃ d : Nat, x = d := ⟨x.toNat, by omega⟩
          rw [if_pos rfl, Int.toNat_natCast] at h1
          rw [if_neg (by decide)] at h2
          have H1 := Lib.hid h1
          have H2 := Lib.hid h2
          have hd6 : (d : Int) < 32 := by omega
          have hor := bit_or HS.out (show d < 32 by omega)
          have hlt2 := or_lt HS.out (pow32 (d := d) (by omega))
          have HL := Lib.hid hlt2
          clear h1 h2 hab hlt2
          go_wp2
          go_roundw
          case rel => exact ⟨i + 1, _, T, rfl, rfl, by go_num, by omega, HL.out, HT.out, H1.out, H2.out, by first | exact HBr.out | exact belDraws HBr.out _⟩
          case measure => simp [intOf]; omega
        · have q5 : (op == 5) = false := by simpa using e5
          rw [if_neg e5] at h1
          by_cases e12 : op = 12
          · subst e12
            have hx := arg_var hab (.inr rfl)
            obtain ⟨d, rfl⟩ : ∃ d : Nat, x = d := ⟨x.toNat, by omega⟩
            rw [if_pos rfl, Int.toNat_natCast] at h2
            have H1 := Lib.hid h1
            have H2 := Lib.hid h2
            have hd6 : (d : Int) < 32 := by omega
            have hor := bit_or HT.out (show d < 32 by omega)
            have hlt2 := or_lt HT.out (pow32 (d := d) (by omega))
            have HL := Lib.hid hlt2
            clear h1 h2 hab hlt2
            go_wp2
            go_roundw
            case rel => exact ⟨i + 1, S, _, rfl, rfl, by go_num, by omega, HS.out, HL.out, H1.out, H2.out, by first | exact HBr.out | exact belDraws HBr.out _⟩
            case measure => simp [intOf]; omega
          · have q12 : (op == 12) = false := by simpa using e12
            rw [if_neg e12] at h2
            have H1 := Lib.hid h1
            have H2 := Lib.hid h2
            clear h1 h2 hab e5 e12
            go_wp2
            go_roundw
            case rel => exact ⟨i + 1, S, T, rfl, rfl, by go_num, by omega, HS.out, HT.out, H1.out, H2.out, by first | exact HBr.out | exact belDraws HBr.out _⟩
            case measure => simp [intOf]; omega
      · obtain rfl : i = m := by omega
        rw [HM.out, List.drop_length] at h1 h2
        obtain rfl : S = r1 := h1
        obtain rfl : T = r2 := h2
        clear HR1 HR2
        go_wp2
        refine bodyPost_ret (v := .tuple #[.int .u32 S, .int .u32 T]) (by first | rfl | (simp [results]; done) | (kernel_rfl)) rfl ?_
        exact ⟨rfl, by first | exact HBr.out | exact belDraws HBr.out _⟩
end Go.Proofs.Ytbcndmlhbdanaaa
