/- TermPartsAreValid: for every list of terms, every part of a valid expression is a valid expression of smaller or equal Depth and Nest. No condition. -/
import Derived.Test.YtbcndmlhbdanaaaTermArg
import Derived.Test.YtbcndmlhbdanaaaTermMod
import Derived.ChangeMaps5
namespace Go.Proofs.Ytbcndmlhbdanaaa.lawTermPartsAreValid
open Go.RowKit Go.ChangeShapes Go.WideShapes Go.Proofs.Ytbcndmlhbdanaaa

/-- what is known of a part of a valid expression -/
theorem part_says {xs : List (Int × Int)} (h : validE xs 6 = true) {i : Nat} (hi : i < xs.length) : ∃ m, 0 < m ∧ i + m ≤ xs.length ∧ endF xs i = (i + m : Nat) ∧ validE ((xs.drop i).take m) 6 = true ∧ depF ((xs.drop i).take m) ≤ depF xs ∧ nesF ((xs.drop i).take m) ≤ nesF xs ∧ (i ≠ 0 → depF ((xs.drop i).take m) < depF xs) := by
  have h1 := valid_one h
  have hx := one_exs (oneB_iff.1 h1)
  obtain ⟨m, d', n', e1, e2, e3, e4, e5⟩ := hx.part i hi
  have hl := eat_le e1
  rw [List.length_drop] at hl
  have h2 : oneB ((xs.drop i).take m) = true := by
    rw [oneB_iff, e2.eats]
  have hd : depF ((xs.drop i).take m) = d' := by unfold depF; rw [if_pos h2, e2.levF]
  have hn : nesF ((xs.drop i).take m) = n' := by unfold nesF; rw [if_pos h2, e2.levF]
  have hd0 : depF xs = (levF xs).1 := by unfold depF; rw [if_pos h1]
  have hn0 : nesF xs = (levF xs).2 := by unfold nesF; rw [if_pos h1]
  refine ⟨m, by omega, by omega, endF_some e1, ?_, by rw [hd, hd0]; omega, by rw [hn, hn0]; omega, fun h0 => by rw [hd, hd0]; have := e5 rfl h0; omega⟩
  have hlen := valid_len h
  unfold validE at h ⊢
  simp only [Bool.and_eq_true, decide_eq_true_eq] at h ⊢
  obtain ⟨⟨⟨⟨_, _⟩, k1⟩, k2⟩, k3⟩ := h
  refine ⟨⟨⟨⟨by rw [List.length_take]; omega, h2⟩, by rw [hd]; rw [hd0] at k1; omega⟩, by rw [hn]; rw [hn0] at k2; omega⟩, ?_⟩
  rw [List.all_eq_true] at k3 ⊢
  exact fun x hx => k3 x (List.mem_of_mem_drop (List.mem_of_mem_take hx))
set_option maxHeartbeats 8000000 in
theorem walk (W : World) (a : Option Addr) (c : Nat) (xs : List (Int × Int)) (hX : LinksAt W a xs) (hcap : xs.length ≤ c) (p : Int) (wf1 : (Lit.int IntKind.i64 p).wf = true) :
    Calls Try.prog 6 #[.slice a xs.length c, .int .i64 p] W fun e W' => e = .returned (.bool true) ∧ Below W.heap.size W W' := by
  have HAw := Lib.hid (fun (X : World) (_ : Below W.heap.size W X) => awake_any X)
  have h64 := wf_i64 wf1
  by_cases hl : xs.length ≤ 250
  case neg =>
    have hl' : decide (xs.length ≤ 250) = false := decide_eq_false hl
    generalize xs.length = m at hl' ⊢
    clear hX hl h64 wf1
    go_enter Try.func6, Try.ntmps6
    go_wp2_with (first | (go_at_call 10; refine (lightE_any a m c _).mono ?_; rintro e w1 ⟨rfl, rfl⟩; rw [hl']) | (go_at_call 11; refine (HAw.out _ (Below.refl _ _)).mono ?_; rintro e w2 ⟨rfl, hb2⟩))
    go_ret
    exact ⟨rfl, hb2⟩
  have hl' : decide (xs.length ≤ 250) = true := decide_eq_true hl
  have HV2 := Lib.hid (validR_any a c xs 6 W hX (by omega))
  cases h1 : validE xs 6 with
  | false =>
    rw [h1] at HV2
    generalize xs.length = m at *
    clear hX hl h1 h64 wf1 hcap
    go_enter Try.func6, Try.ntmps6
    go_wp2_with (first | (go_at_call 10; refine (lightE_any a m c _).mono ?_; rintro e w1 ⟨rfl, hw1⟩; rw [hl']; have hw1' := hw1.symm; subst hw1') | (go_at_call 27; refine HV2.out.mono ?_; rintro e w3 ⟨rfl, hb3⟩) | (go_at_call 11; refine (HAw.out _ hb3).mono ?_; rintro e w2 ⟨rfl, hb2⟩))
    go_ret
    exact ⟨rfl, hb3.trans (hb2.mono hb3.size)⟩
  | true =>
    rw [h1] at HV2
    have h6 : I64 6 := by unfold I64; decide
    have hpos : 1 ≤ xs.length := by
      have h2 := valid_one h1
      unfold oneB at h2
      simp only [decide_eq_true_eq] at h2
      exact h2.1
    obtain ⟨i, hi, hin⟩ := mod_nat p hpos
    obtain ⟨k, hk0, hki, hend, hval, hdep, hnes, hdep0⟩ := part_says h1 hin
    have HMod := Lib.hid (fun (X : World) => mod_any p xs.length X h64 hpos (by omega))
    rw [hi] at HMod
    obtain ⟨b, o, rfl, hb, hc⟩ := hX.row (by omega)
    have HE := Lib.hid (fun (X : World) (h : Below W.heap.size W X) => endP_any (some ⟨b, o, none⟩) c xs i X (hX.below h) (by omega))
    rw [hend] at HE
    have hpl : ((xs.drop i).take k).length = k := by rw [List.length_take, List.length_drop]; omega
    have HPart := Lib.hid (fun (X : World) (h : Below W.heap.size W X) => (hX.below h).part hki)
    have HD := Lib.hid (fun (X : World) (h : Below W.heap.size W X) => depthP_any (some ⟨b, o, none⟩) c xs X (hX.below h) (by omega))
    have HN := Lib.hid (fun (X : World) (h : Below W.heap.size W X) => nestP_any (some ⟨b, o, none⟩) c xs X (hX.below h) (by omega))
    have hfit : ∀ x ∈ (xs.drop i).take k, I64 x.1 ∧ I64 x.2 := fun x hx => hX.fits x (List.mem_of_mem_drop (List.mem_of_mem_take hx))
    generalize (xs.drop i).take k = ys at hval hdep hnes hdep0 hpl HPart hfit
    have HV1 := Lib.hid (fun (a' : Option Addr) (c' : Nat) (X : World) (h : LinksAt X a' ys) => validP_any a' c' ys 6 X h (by omega) h6)
    have HD1 := Lib.hid (fun (a' : Option Addr) (c' : Nat) (X : World) (h : LinksAt X a' ys) => depthP_any a' c' ys X h (by omega))
    have HN1 := Lib.hid (fun (a' : Option Addr) (c' : Nat) (X : World) (h : LinksAt X a' ys) => nestP_any a' c' ys X h (by omega))
    have HFit := Lib.hid hfit
    rw [hval, hpl] at HV1
    rw [hpl] at HD1 HN1
    have HPl : Hid (k = ys.length) := Lib.hid hpl.symm
    have HLe : Hid (ys.length ≤ 1000000) := Lib.hid (by omega)
    generalize depF xs = d0 at HD hdep hdep0
    generalize nesF xs = n0 at HN hnes
    generalize depF ys = d1 at HD1 hdep hdep0
    generalize nesF ys = n1 at HN1 hnes
    generalize xs.length = m at *
    clear hX hl h1 h64 wf1 hend hval hfit hc hpl h6 hi
    have q1 : decide (((i + k : Nat) : Int) ≤ (i : Int)) = false := by simp; omega
    have q2 : decide (((i + k : Nat) : Int) > (m : Int)) = false := by simp; omega
    have q3 : decide (d1 ≤ d0) = true := decide_eq_true hdep
    have q4 : decide (n1 ≤ n0) = true := decide_eq_true hnes
    have q5 : ∃ u v, ((i : Int) == 0) = u ∧ decide (d1 < d0) = v ∧ (u || v) = true := by
      refine ⟨_, _, rfl, rfl, ?_⟩
      by_cases h0 : i = 0
      · simp [h0]
      · simp [hdep0 h0]
    have HS1 : Hid (i + k - i = k) := Lib.hid (by omega)
    have HPl1 : Hid (i + k - i = ys.length) := Lib.hid (by rw [HS1.out]; exact HPl.out)
    have hci : ¬ c = i := by omega
    obtain ⟨u, v, qu, qv, quv⟩ := q5
    have hck : i + k ≤ c := by omega
    have hB0 := Below.refl W.heap.size W
    cases u
    all_goals cases v
    all_goals first
      | (exact absurd quv (by decide))
      | (go_enter Try.func6, Try.ntmps6
         go_wp2_with (first | (go_at_call 10; refine (lightE_any _ m c _).mono ?_; rintro e w1 ⟨rfl, hw1⟩; rw [hl']; have hw1' := hw1.symm; subst hw1') | (go_at_call 27; refine HV2.out.mono ?_; rintro e w3 ⟨rfl, hb3⟩) | (go_at_call 29; refine (HMod.out _).mono ?_; rintro e w4 ⟨rfl, rfl⟩) | (go_at_call 14; refine (HE.out _ hb3).mono ?_; rintro e w5 ⟨rfl, hb5⟩; have hb6 := hb3.trans (hb5.mono hb3.size)) | (at_builtin; refine wpList_copyT rfl _ _ rfl _ _ ys (i + k - i) HPl1.out rfl rfl (HPart.out _ hb6) HLe.out ?_; intro a7 c7 w7 hown7 hb7; rw [HS1.out]; have hP := And.intro (hb6.trans (hb7.mono hb6.size)) (OwnT.links hown7 HFit.out)) | (go_at_call 11; refine (HAw.out _ hP.1).mono ?_; rintro e wN ⟨rfl, hbN⟩; replace hP := And.intro (hP.1.trans (hbN.mono hP.1.size)) (hP.2.below hbN)) | (go_at_call 26; refine (HV1.out _ _ _ hP.2).mono ?_; rintro e wN ⟨rfl, hbN⟩; replace hP := And.intro (hP.1.trans (hbN.mono hP.1.size)) (hP.2.below hbN)) | (go_at_call 18; first | (with_reducible refine (HD1.out _ _ _ hP.2).mono ?_; rintro e wN ⟨rfl, hbN⟩; replace hP := And.intro (hP.1.trans (hbN.mono hP.1.size)) (hP.2.below hbN)) | (with_reducible refine (HD.out _ hP.1).mono ?_; rintro e wN ⟨rfl, hbN⟩; replace hP := And.intro (hP.1.trans (hbN.mono hP.1.size)) (hP.2.below hbN))) | (go_at_call 20; first | (with_reducible refine (HN1.out _ _ _ hP.2).mono ?_; rintro e wN ⟨rfl, hbN⟩; replace hP := And.intro (hP.1.trans (hbN.mono hP.1.size)) (hP.2.below hbN)) | (with_reducible refine (HN.out _ hP.1).mono ?_; rintro e wN ⟨rfl, hbN⟩; replace hP := And.intro (hP.1.trans (hbN.mono hP.1.size)) (hP.2.below hbN))))
         go_ret
         exact ⟨by first | rfl | (simp; done), hP.1⟩)

set_option maxRecDepth 100000 in
theorem lifted (os : Os) (started : os.Started) (H : Type) (enc : TypeId × Value → H) :
    ReturnsInHanded {} Try.checked os 6 .any (Rows.termPartsAreValidSpec.pre6 enc Try.prog Try.f6 Rows.termPartsAreValidRow.domain false) (Rows.termPartsAreValidSpec.post enc Try.prog Try.f6 false true false false) := by
  refine returnsInHanded_of_change (C := Try.checked) own started (by kernel_rfl) Try.func6
    (ChangeSpec.witness6 (enc := enc) (C := Try.checked) false ⟨#[], #[.slice none 0 0, .int .i64 0], []⟩ 8 (by kernel_rfl) (by kernel_rfl) (by kernel_rfl) (by kernel_rfl)) ?_
  intro W base args ds gs before hval0 hW hcnd _
  have hval : ∀ (j : Nat) t v, Try.f6.params[j]? = some t → args[j]? = some v → Value.okWide Try.prog W .any base t v := hval0
  have hW' := hW
  obtain ⟨p, q, hA0, hV, rfl, hfz, hnd⟩ := hW
  have hA : DataW.TrodAll enc Try.prog W 0 (fun _ => true) true Try.f6.params.toList args.toList ds p := hA0
  rw [Try.params6] at hA hval
  obtain ⟨v0, vs0, d0, ds0, p0, q0, hargs, rfl, rfl, h0, r0⟩ := trodAll_cons hA
  obtain ⟨v1, vs1, d1, ds1, p1, q1, rfl, rfl, rfl, h1, r1⟩ := trodAll_cons r0
  obtain ⟨rfl, rfl, rfl⟩ := trodAll_nil r1
  obtain rfl : args = #[v0, v1] := by cases args; simp_all
  obtain ⟨rfl, rfl⟩ := trodVars_none hV
  have k0 := h0
  have lt0 : ∀ x ∈ p0, x.block < W.heap.size := by obtain ⟨m, hm⟩ := k0; exact DataW.trod_lt m _ _ _ hm
  obtain ⟨sa0, sl0, sc0, rfl⟩ := okWide_slice Try.underlying22 (hval 0 22 v0 rfl rfl)
  obtain ⟨m0, hm0⟩ := h0
  have hcp0 := links_cap Try.underlying22 hm0
  obtain ⟨xa0, xl0, xc0, zs0, hv0, hl0, hI0⟩ := links_of Try.underlying22 Try.underlying41 (by kernel_rfl) (by kernel_rfl) rfl rfl Try.underlying3 hm0
  injection hv0 with e0a e0b e0c
  subst e0a e0b e0c hl0
  have k1 := h1
  have lt1 : ∀ x ∈ p1, x.block < W.heap.size := by obtain ⟨m, hm⟩ := k1; exact DataW.trod_lt m _ _ _ hm
  obtain ⟨a1, rfl, rfl, rfl, w1⟩ := open_int Try.underlying3 (hval 1 3 v1 rfl rfl) h1
  clear hA0 hval0
  refine (walk W sa0 sc0 zs0 hI0 hcp0 a1 w1).mono fun e W' ⟨he, bel⟩ => ?_
  subst he
  exact ⟨_, rfl, _, _, _, [], _, [], hW', trodAll_mk1 (shut_bool Try.underlying4 _), (trodAll_cons_mk (Below.trod laidOut (by kernel_rfl) (of_decide_eq_true (by kernel_rfl)) k0 bel lt0) (trodAll_cons_mk (Below.trod laidOut (by kernel_rfl) (of_decide_eq_true (by kernel_rfl)) k1 bel lt1) trodAll_mk0)), rfl, bel.frame _, fun h => by cases h⟩

theorem over : Rows.termPartsAreValidRow.holds Try.pinned (OpenSpec.ofChange Rows.termPartsAreValidSpec) :=
  OpenClaim.holds_of_wide 6 Try.f6 rfl rfl rfl rfl rfl rfl rfl ⟨rfl, rfl, rfl, rfl, rfl⟩ rfl rfl rfl rfl rfl (by kernel_rfl) Try.func6 (by kernel_rfl)
    (of_decide_eq_true (by kernel_rfl)) (by unfold Func.isWrapper; first | (rw [if_pos (by decide +kernel)]; kernel_rfl) | (rw [if_neg (by decide +kernel)]; exact ⟨rfl, rfl⟩))
    (fun os started H enc _ => lifted os started H enc)

theorem proved : Rows.TermPartsAreValidSaid := over
end Go.Proofs.Ytbcndmlhbdanaaa.lawTermPartsAreValid
