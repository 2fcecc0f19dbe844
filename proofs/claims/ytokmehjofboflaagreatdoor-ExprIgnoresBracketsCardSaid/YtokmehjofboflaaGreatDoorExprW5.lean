/- The walk of ExprIgnoresBrackets. -/
import Derived.Test.YtokmehjofboflaaGreatDoorExprW3
namespace Go.Proofs.YtokmehjofboflaaGreatDoor
set_option maxRecDepth 100000
open Go.RowKit

theorem around_out : ∀ (k : Nat) (s : Bytes), around (k + 1) s = 40 :: 32 :: (around k s ++ [41, 35, 32, 120, 10])
  | 0, s => rfl
  | k + 1, s => by
    show around (k + 1) (40 :: 32 :: (s ++ [41, 35, 32, 120, 10])) = _
    rw [around_out k]
    rfl
theorem around_len : ∀ (k : Nat) (s : Bytes), (around k s).length = s.length + 7 * k
  | 0, s => by simp [around]
  | k + 1, s => by
    rw [around_out, List.length_cons, List.length_cons, List.length_append, around_len k]
    simp
    omega
set_option maxHeartbeats 4000000 in
theorem exprIgnores_walk (W : World) (hL6 : Lay6 W) (a : Option Addr) (c : Nat) (xs : List (Int × Int)) (hX : LinksAt W a xs) (hcap : xs.length ≤ c) (na : Option Addr) (nc : Nat) (ns : List Bytes) (hN : NamesAt W na ns) (hc : ns.length ≤ nc) (p : Nat) (hp : p ≤ 255) :
    Calls Tryz.prog 6 #[.slice a xs.length c, .slice na ns.length nc, .int .u8 (p : Int)] W fun e W' => e = .returned (.bool true) ∧ Below W.heap.size W W' := by
  have HA := Lib.hid (fun w (h : Below W.heap.size W w) => awake6_any w (hL6.below h (Nat.le_refl _)))
  have HF := Lib.hid (fair6_any a c xs na nc ns W hX hN hc)
  cases hf : (decide (xs.length ≤ 250) && (lightN ns && fairE xs ns)) with
  | false =>
    rw [hf] at HF
    clear hX hN hc hf hcap
    generalize xs.length = k at *
    generalize ns.length = m at *
    go_enter Tryz.func6, Tryz.ntmps6
    go_wp2_with (first | (go_at_call 17; refine HF.out.mono ?_; rintro e w0 ⟨rfl, hb0⟩) | (go_at_call 10; refine (HA.out _ hb0).mono ?_; rintro e w1 ⟨rfl, hb⟩))
    go_ret
    exact ⟨rfl, hb0.trans (hb.mono hb0.size)⟩
  | true =>
    rw [hf] at HF
    rw [Bool.and_eq_true, Bool.and_eq_true, decide_eq_true_eq] at hf
    obtain ⟨h250, hl, hfe⟩ := hf
    have h10 := light_ten hl
    obtain ⟨x, hx⟩ := fair_x hfe
    have htx := fun k (hk : k ≤ 20) => hx.text k hk
    have HP := Lib.hid (fun (w : World) (h : Below W.heap.size W w) => formatP_ok a c xs na nc ns w (hX.below h) (hN.below h rfl) hc hfe x hx.flat hx.wf hcap (hL6.below h (Nat.le_refl _)))
    have HR := Lib.hid (fun (w : World) (h : Below W.heap.size W w) => readP_any (T := around (p % 20) (x.text ns)) na nc w (hN.below h rfl) hc h10 (htx _ (by omega)).1 (htx _ (by omega)).2.2 (hL6.below h (Nat.le_refl _)))
    have HS := Lib.hid (fun (a a' : Option Addr) (c c' : Nat) (w : World) (h1 : LinksAt w a xs) (h2 : LinksAt w a' xs) => sameR_any a a' c c' xs xs w h1 h2 (by omega) (by omega))
    have HX := Lib.hid (fun (w : World) (h : Below W.heap.size W w) => hX.below h)
    have h0 := (htx 0 (by omega)).2.1
    have hlen0 : (x.text ns).length ≤ 6000 := h0
    clear hX hN hc hl h10 h250 hfe hx htx h0 hcap
    generalize x.text ns = T at *
    generalize ns.length = m at *
    go_enter Tryz.func6, Tryz.ntmps6
    go_wp2_with (first
      | (go_at_call 17; refine HF.out.mono ?_; rintro e w0 ⟨rfl, hb0⟩)
      | (go_at_call 15; refine (HP.out _ hb0).mono ?_; rintro e w3 ⟨rfl, hb3⟩; have hB3 := hb0.trans (hb3.mono hb0.size)))
    go_loop [7, 9] (fun ts ti => ∃ i : Nat, ts = .string (mkS (around i T)) ∧ ti = .int .i64 i ∧ i ≤ p % 20) (fun _ ti => p % 20 - (intOf ti).toNat)
    case atStart => exact ⟨0, rfl, rfl, Nat.zero_le _⟩
    case round =>
      obtain ⟨i, rfl, rfl, hi⟩ := hrel
      by_cases hlt : i < p % 20
      · have hal := around_len i T
        have hao := around_out i T
        have add1 : ∀ W, (Op.stringOp .add ⟨#[40, 32]⟩ (mkS (around i T))).run Tryz.prog W = .ok (.string (mkS (40 :: 32 :: around i T))) W := fun W => mkS_add [40, 32] _ (by simp) (by omega) W
        have add2 : ∀ W, (Op.stringOp .add (mkS (40 :: 32 :: around i T)) ⟨#[41, 35, 32, 120, 10]⟩).run Tryz.prog W = .ok (.string (mkS (around (i + 1) T))) W := fun W => by
          rw [hao]
          exact mkS_add (40 :: 32 :: around i T) [41, 35, 32, 120, 10] (by simp; omega) (by simp) W
        clear hal hao
        generalize mkS (40 :: 32 :: around i T) = z2 at *
        generalize mkS (around i T) = z1 at *
        go_wp2
        go_round
        case rel => exact ⟨i + 1, rfl, by go_num, hlt⟩
        case measure => simp [intOf]; omega
      · obtain rfl : i = p % 20 := by omega
        generalize mkS (around (p % 20) T) = z at *
        go_wp2_with (first
          | (go_at_call 11; refine (HR.out _ hB3).mono ?_; rintro e w4 ⟨⟨a4, c4, rfl, L4⟩, hb4⟩; have hB4 := hB3.trans (hb4.mono hB3.size))
          | (go_at_call 10; refine (HA.out _ hB4).mono ?_; rintro e w5 ⟨rfl, hb5⟩; have hB5 := hB4.trans (hb5.mono hB4.size))
          | (go_at_call 13; refine (HS.out _ _ _ _ _ (HX.out _ hB5) (L4.below hb5)).mono ?_; rintro e w6 ⟨rfl, hb6⟩; have hB6 := hB5.trans (hb6.mono hB5.size)))
        go_ret
        exact ⟨rfl, hB6⟩
end Go.Proofs.YtokmehjofboflaaGreatDoor
