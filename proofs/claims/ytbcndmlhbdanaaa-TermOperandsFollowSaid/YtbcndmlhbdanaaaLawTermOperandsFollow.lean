/- TermOperandsFollow: for every list of terms, in one expression the operands of each term stand one behind the other, and the last one ends where the term ends. No condition. -/
import Derived.Test.YtbcndmlhbdanaaaTermArg
import Derived.ChangeMaps5
namespace Go.Proofs.Ytbcndmlhbdanaaa.lawTermOperandsFollow
open Go.RowKit Go.ChangeShapes Go.WideShapes Go.Proofs.Ytbcndmlhbdanaaa

set_option maxHeartbeats 4000000 in
theorem walk (W : World) (a : Option Addr) (c : Nat) (xs : List (Int × Int)) (hX : LinksAt W a xs) :
    Calls Try.prog 5 #[.slice a xs.length c] W fun e W' => e = .returned (.bool true) ∧ Below W.heap.size W W' := by
  have HAw := Lib.hid (fun (X : World) (_ : Below W.heap.size W X) => awake_any X)
  have hB0 := Below.refl W.heap.size W
  by_cases hl : xs.length ≤ 250
  case neg =>
    have hl' : decide (xs.length ≤ 250) = false := decide_eq_false hl
    generalize xs.length = m at hl' ⊢
    clear hX hl
    go_enter Try.func5, Try.ntmps5
    go_wp2_with (first | (go_at_call 10; refine (lightE_any a m c _).mono ?_; rintro e w1 ⟨rfl, rfl⟩; rw [hl']) | (go_at_call 11; refine (HAw.out _ (Below.refl _ _)).mono ?_; rintro e w2 ⟨rfl, hb2⟩))
    go_ret
    exact ⟨rfl, hb2⟩
  have hl' : decide (xs.length ≤ 250) = true := decide_eq_true hl
  have HD2 := Lib.hid (depthR_any a c xs W hX (by omega))
  cases h1 : oneB xs with
  | false =>
    have hz : depF xs = 0 := by unfold depF; rw [h1]; rfl
    rw [hz] at HD2
    generalize xs.length = m at *
    clear hX hl h1 hz
    go_enter Try.func5, Try.ntmps5
    go_wp2_with (first | (go_at_call 10; refine (lightE_any a m c _).mono ?_; rintro e w1 ⟨rfl, hw1⟩; rw [hl']; have hw1' := hw1.symm; subst hw1') | (go_at_call 19; refine HD2.out.mono ?_; rintro e w3 ⟨rfl, hb3⟩) | (go_at_call 11; refine (HAw.out _ hb3).mono ?_; rintro e w2 ⟨rfl, hb2⟩))
    go_ret
    exact ⟨rfl, hb3.trans (hb2.mono hb3.size)⟩
  | true =>
    have hz := depF_pos h1
    have dz : (depF xs == 0) = false := by rw [beq_eq_false_iff_ne]; omega
    generalize depF xs = dd at HD2 dz
    have HX := Lib.hid hX
    have H1 := Lib.hid h1
    obtain ⟨m, hm⟩ : ∃ m, m = xs.length := ⟨_, rfl⟩
    have HM := Lib.hid hm
    have HE := Lib.hid (fun (X : World) (q : Int) (h : Below W.heap.size W X) => endP_any a c xs q X (hX.below h) (by omega))
    have HO := Lib.hid (fun (X : World) (q k : Int) (h : Below W.heap.size W X) => operandP_any a c xs q k X (hX.below h) (by omega))
    have hend : endF xs 0 = xs.length := by
      unfold oneB at h1
      simp only [decide_eq_true_eq] at h1
      exact h1.2
    rw [← hm] at HE HO HD2 hl hl' hend ⊢
    have HEnd := Lib.hid hend
    clear hX hm h1 hz hend
    go_enter Try.func5, Try.ntmps5
    go_wp2_with (first | (go_at_call 10; refine (lightE_any a m c _).mono ?_; rintro e w1 ⟨rfl, hw1⟩; rw [hl']; have hw1' := hw1.symm; subst hw1') | (go_at_call 19; refine HD2.out.mono ?_; rintro e w3 ⟨rfl, hb3⟩))
    have HB3 := Lib.hid hb3
    clear hb3
    go_loopw [3] (fun t wr => ∃ i : Nat, t = .int .i64 i ∧ i ≤ m ∧ Below W.heap.size W wr) (fun t _ => m - (intOf t).toNat)
    case atStart => exact ⟨0, rfl, Nat.zero_le _, HB3.out⟩
    case round =>
      obtain ⟨i, rfl, him, hbr⟩ := hrel
      by_cases hlt : i < m
      · have hxl : i < xs.length := by rw [← HM.out]; exact hlt
        obtain ⟨lb, lo, rfl, hlb, hls⟩ := HX.out.row (by omega)
        have g0 := (hls i hxl).1
        obtain ⟨mm, hmm⟩ := one_part H1.out hxl
        obtain ⟨p1, p2, p3⟩ := end_place hxl hmm
        have p4 := arF_le (toA xs i)
        have p5 : ∀ k : Nat, k < (arF (toA xs i)).toNat → opdF xs i k = placeF xs i k := fun k hk => by
          unfold opdF
          rw [if_neg]
          · rfl
          · rw [p2, Int.toNat_natCast]
            have h6 := placeF_le (xs := xs) (p := i) (by omega) (arF (toA xs i)).toNat
            have h7 := endF_some hmm
            rw [p2] at h7
            omega
        have p6 : opdF xs i (arF (toA xs i)) = -1 := by
          unfold opdF
          rw [if_pos]
          rw [Int.toNat_natCast]
          omega
        obtain ⟨K, hK⟩ : ∃ K : Nat, arF (toA xs i) = K := ⟨(arF (toA xs i)).toNat, by omega⟩
        rw [hK, Int.toNat_natCast] at p2 p5
        rw [hK] at p6 p4
        have HP2 := Lib.hid p2
        have HP5 := Lib.hid p5
        have HP6 := Lib.hid p6
        have HK : Hid (∀ X : World, Calls Try.prog 12 #[.int .i64 (toA xs i)] X fun e w' => e = .returned (.int .i64 K) ∧ w' = X) := Lib.hid (fun X => by rw [← hK]; exact arityP_any _ X)
        have HG : Hid (W.cell? ⟨lb, lo + i * 2, none⟩ = some (.int .i64 (toA xs i))) := Lib.hid g0
        clear p1 p2 p3 p5 p6 hmm hls g0 hK
        generalize toA xs i = op at HK HG
        have hi0 : (0 : Int) ≤ i := by omega
        have hi1 : (i : Int) < m := by omega
        have HBr := Lib.hid hbr
        clear hbr
        obtain ⟨wo, rfl⟩ : ∃ wo : World, wo = wr := ⟨_, rfl⟩
        go_wp2
        go_loopw [4, 5] (fun s t wq => ∃ k : Nat, t = .int .i64 k ∧ k ≤ K ∧ s = .int .i64 (placeF xs i k) ∧ Below W.heap.size W wq) (fun _ t _ => K - (intOf t).toNat)
        case atStart => exact ⟨0, rfl, Nat.zero_le _, by first | rfl | (unfold placeF; go_num), HBr.out⟩
        case round =>
          obtain ⟨k, rfl, hkK, rfl, hbq⟩ := hrel
          have HBq := Lib.hid hbq
          have g1 := (hbq.cell (p := ⟨lb, lo + i * 2, none⟩) hlb).trans HG.out
          have hAr := HK.out wr
          have hEn := HE.out wr (placeF xs i k) hbq
          clear hbq
          by_cases hk : k < K
          · have hOp := HO.out wr i k HBq.out
            rw [HP5.out k hk] at hOp
            have hst : placeF xs i (k + 1) = endF xs (placeF xs i k) := rfl
            have HSt := Lib.hid hst
            obtain ⟨pk, hpk⟩ : ∃ pk, placeF xs i k = pk := ⟨_, rfl⟩
            rw [hpk] at hOp hEn HSt ⊢
            have HAr := Lib.hid hAr
            have HOp := Lib.hid hOp
            clear hst hpk hAr hOp hEn
            go_wp2_with (first | (go_at_call 12; refine HAr.out.mono ?_; rintro e w5 ⟨rfl, rfl⟩) | (go_at_call 16; refine HOp.out.mono ?_; rintro e w6 ⟨rfl, hb6⟩; have hb7 := HBq.out.trans (hb6.mono HBq.out.size)) | (go_at_call 14; refine (HE.out _ pk hb7).mono ?_; rintro e w8 ⟨rfl, hb8⟩; have hb9 := hb7.trans (hb8.mono hb7.size)))
            go_roundw
            case rel => exact ⟨k + 1, by go_num, by omega, by rw [HSt.out], hb9⟩
            case measure => simp [intOf]; omega
          · obtain rfl : k = K := by omega
            have hEi := HE.out wr i HBq.out
            rw [HP2.out] at hEi
            have HOi := Lib.hid (fun (X : World) (h : Below W.heap.size W X) => HO.out X i k h)
            rw [HP6.out] at HOi
            obtain ⟨pk, hpk⟩ : ∃ pk, placeF xs i k = pk := ⟨_, rfl⟩
            rw [hpk] at hEi ⊢
            have HEi := Lib.hid hEi
            have HG2 := HG
            have HAr := HK
            clear hpk hAr hEi hEn
            go_wp2_with (first | (go_at_call 14; refine HEi.out.mono ?_; rintro e w6 ⟨rfl, hb6⟩; have hb7 := HBq.out.trans (hb6.mono HBq.out.size); have g2 := (hb7.cell (p := ⟨lb, lo + i * 2, none⟩) hlb).trans HG2.out) | (go_at_call 12; refine (HAr.out _).mono ?_; rintro e w5 ⟨rfl, rfl⟩) | (go_at_call 16; refine (HOi.out _ hb7).mono ?_; rintro e w8 ⟨rfl, hb8⟩; have hb9 := hb7.trans (hb8.mono hb7.size)))
            go_roundw
            case rel => exact ⟨i + 1, by go_num, by omega, hb9⟩
            case measure => simp [intOf]; omega
      · obtain rfl : i = m := by omega
        have hEi := HE.out
        have h0 := HEnd.out
        have HEi := Lib.hid (fun (X : World) (h : Below W.heap.size W X) => HE.out X 0 h)
        rw [h0] at HEi
        clear hEi h0
        go_wp2_with (first | (go_at_call 11; refine (HAw.out _ hbr).mono ?_; rintro e w5 ⟨rfl, hb5⟩; have hb6 := hbr.trans (hb5.mono hbr.size)) | (go_at_call 14; refine (HEi.out _ hb6).mono ?_; rintro e w7 ⟨rfl, hb7⟩))
        go_ret
        exact ⟨by first | rfl | (simp; done), hb6.trans (hb7.mono hb6.size)⟩

set_option maxRecDepth 100000 in
theorem lifted (os : Os) (started : os.Started) (H : Type) (enc : TypeId × Value → H) :
    ReturnsInHanded {} Try.checked os 5 .any (Rows.termOperandsFollowSpec.pre6 enc Try.prog Try.f5 Rows.termOperandsFollowRow.domain false) (Rows.termOperandsFollowSpec.post enc Try.prog Try.f5 false true false false) := by
  refine returnsInHanded_of_change (C := Try.checked) own started (by kernel_rfl) Try.func5
    (ChangeSpec.witness6 (enc := enc) (C := Try.checked) false ⟨#[], #[.slice none 0 0], []⟩ 8 (by kernel_rfl) (by kernel_rfl) (by kernel_rfl) (by kernel_rfl)) ?_
  intro W base args ds gs before hval0 hW hcnd _
  have hval : ∀ (j : Nat) t v, Try.f5.params[j]? = some t → args[j]? = some v → Value.okWide Try.prog W .any base t v := hval0
  have hW' := hW
  obtain ⟨p, q, hA0, hV, rfl, hfz, hnd⟩ := hW
  have hA : DataW.TrodAll enc Try.prog W 0 (fun _ => true) true Try.f5.params.toList args.toList ds p := hA0
  rw [Try.params5] at hA hval
  obtain ⟨v0, vs0, d0, ds0, p0, q0, hargs, rfl, rfl, h0, r0⟩ := trodAll_cons hA
  obtain ⟨rfl, rfl, rfl⟩ := trodAll_nil r0
  obtain rfl : args = #[v0] := by cases args; simp_all
  obtain ⟨rfl, rfl⟩ := trodVars_none hV
  have k0 := h0
  have lt0 : ∀ x ∈ p0, x.block < W.heap.size := by obtain ⟨m, hm⟩ := k0; exact DataW.trod_lt m _ _ _ hm
  obtain ⟨sa0, sl0, sc0, rfl⟩ := okWide_slice Try.underlying22 (hval 0 22 v0 rfl rfl)
  obtain ⟨m0, hm0⟩ := h0
  obtain ⟨xa0, xl0, xc0, zs0, hv0, hl0, hI0⟩ := links_of Try.underlying22 Try.underlying41 (by kernel_rfl) (by kernel_rfl) rfl rfl Try.underlying3 hm0
  injection hv0 with e0a e0b e0c
  subst e0a e0b e0c hl0
  clear hA0 hval0
  refine (walk W sa0 sc0 zs0 hI0).mono fun e W' ⟨he, bel⟩ => ?_
  subst he
  exact ⟨_, rfl, _, _, _, [], _, [], hW', trodAll_mk1 (shut_bool Try.underlying4 _), (trodAll_cons_mk (Below.trod laidOut (by kernel_rfl) (of_decide_eq_true (by kernel_rfl)) k0 bel lt0) trodAll_mk0), rfl, bel.frame _, fun h => by cases h⟩

theorem over : Rows.termOperandsFollowRow.holds Try.pinned (OpenSpec.ofChange Rows.termOperandsFollowSpec) :=
  OpenClaim.holds_of_wide 5 Try.f5 rfl rfl rfl rfl rfl rfl rfl ⟨rfl, rfl, rfl, rfl, rfl⟩ rfl rfl rfl rfl rfl (by kernel_rfl) Try.func5 (by kernel_rfl)
    (of_decide_eq_true (by kernel_rfl)) (by unfold Func.isWrapper; first | (rw [if_pos (by decide +kernel)]; kernel_rfl) | (rw [if_neg (by decide +kernel)]; exact ⟨rfl, rfl⟩))
    (fun os started H enc _ => lifted os started H enc)

theorem proved : Rows.TermOperandsFollowSaid := over
end Go.Proofs.Ytbcndmlhbdanaaa.lawTermOperandsFollow
