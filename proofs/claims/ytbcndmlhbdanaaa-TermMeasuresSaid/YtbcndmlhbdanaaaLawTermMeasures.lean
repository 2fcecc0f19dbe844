/- TermMeasures: for every list of terms and every numbers, Arity, End, Operand, Depth and Nest of the program and of the specification answer the same where the law asks it. No condition. -/
import Derived.Test.YtbcndmlhbdanaaaTermA
import Derived.ChangeMaps5
namespace Go.Proofs.Ytbcndmlhbdanaaa.lawTermMeasures
open Go.RowKit Go.ChangeShapes Go.WideShapes Go.Proofs.Ytbcndmlhbdanaaa

set_option maxHeartbeats 4000000 in
theorem walk (W : World) (a : Option Addr) (c : Nat) (xs : List (Int × Int)) (hX : LinksAt W a xs) (op : Int) (_ : (Lit.int IntKind.i64 op).wf = true) (p : Int) (_ : (Lit.int IntKind.i64 p).wf = true) (k : Int) (_ : (Lit.int IntKind.i64 k).wf = true) :
    Calls Try.prog 3 #[.slice a xs.length c, .int .i64 op, .int .i64 p, .int .i64 k] W fun e W' => e = .returned (.bool true) ∧ Below W.heap.size W W' := by
  have HAw := Lib.hid (fun (X : World) (_ : Below W.heap.size W X) => awake_any X)
  by_cases hl : xs.length ≤ 250
  case neg =>
    have hl' : decide (xs.length ≤ 250) = false := decide_eq_false hl
    generalize xs.length = m at hl' ⊢
    clear hX hl
    have hB0 := Below.refl W.heap.size W
    go_enter Try.func3, Try.ntmps3
    go_wp2_with (first | (go_at_call 10; refine (lightE_any a m c _).mono ?_; rintro e w1 ⟨rfl, rfl⟩; rw [hl']) | (go_at_call 11; refine (HAw.out _ (Below.refl _ _)).mono ?_; rintro e w2 ⟨rfl, hb2⟩))
    go_ret
    exact ⟨rfl, hb2⟩
  have hl' : decide (xs.length ≤ 250) = true := decide_eq_true hl
  have HA1 := Lib.hid (fun (X : World) (_ : Below W.heap.size W X) => (arityP_any op X).mono (R' := fun e w' => e = .returned (.int .i64 (arF op)) ∧ Below X.heap.size X w') (fun e w' h => ⟨h.1, by rw [h.2]; exact Below.refl _ _⟩))
  have HA2 := Lib.hid (fun (X : World) (_ : Below W.heap.size W X) => (arityR_any op X).mono (R' := fun e w' => e = .returned (.int .i64 (arF op)) ∧ Below X.heap.size X w') (fun e w' h => ⟨h.1, by rw [h.2]; exact Below.refl _ _⟩))
  have HE1 := Lib.hid (fun (X : World) (h : Below W.heap.size W X) => endP_any a c xs p X (hX.below h) (by omega))
  have HE2 := Lib.hid (fun (X : World) (h : Below W.heap.size W X) => endR_any a c xs p X (hX.below h) (by omega))
  have HO1 := Lib.hid (fun (X : World) (h : Below W.heap.size W X) => operandP_any a c xs p k X (hX.below h) (by omega))
  have HO2 := Lib.hid (fun (X : World) (h : Below W.heap.size W X) => operandR_any a c xs p k X (hX.below h) (by omega))
  have HD1 := Lib.hid (fun (X : World) (h : Below W.heap.size W X) => depthP_any a c xs X (hX.below h) (by omega))
  have HD2 := Lib.hid (fun (X : World) (h : Below W.heap.size W X) => depthR_any a c xs X (hX.below h) (by omega))
  have HN1 := Lib.hid (fun (X : World) (h : Below W.heap.size W X) => nestP_any a c xs X (hX.below h) (by omega))
  have HN2 := Lib.hid (fun (X : World) (h : Below W.heap.size W X) => nestR_any a c xs X (hX.below h) (by omega))
  generalize arF op = z1 at HA1 HA2
  generalize endF xs p = z2 at HE1 HE2
  generalize opdF xs p k = z3 at HO1 HO2
  generalize depF xs = z4 at HD1 HD2
  generalize nesF xs = z5 at HN1 HN2
  generalize xs.length = m at *
  clear hX hl
  have hB0 := Below.refl W.heap.size W
  go_enter Try.func3, Try.ntmps3
  go_wp2_with (first | (go_at_call 10; refine (lightE_any a m c _).mono ?_; rintro e w0 ⟨rfl, rfl⟩; rw [hl']) | (go_at_call 11; refine (HAw.out _ hB0).mono ?_; rintro e w1 ⟨rfl, hb1⟩; have hB1 := hB0.trans (hb1.mono hB0.size)) | (go_at_call 12; refine (HA1.out _ hB1).mono ?_; rintro e w2 ⟨rfl, hb2⟩; have hB2 := hB1.trans (hb2.mono hB1.size)) | (go_at_call 13; refine (HA2.out _ hB2).mono ?_; rintro e w3 ⟨rfl, hb3⟩; have hB3 := hB2.trans (hb3.mono hB2.size)) | (go_at_call 14; refine (HE1.out _ hB3).mono ?_; rintro e w4 ⟨rfl, hb4⟩; have hB4 := hB3.trans (hb4.mono hB3.size)) | (go_at_call 15; refine (HE2.out _ hB4).mono ?_; rintro e w5 ⟨rfl, hb5⟩; have hB5 := hB4.trans (hb5.mono hB4.size)) | (go_at_call 16; refine (HO1.out _ hB5).mono ?_; rintro e w6 ⟨rfl, hb6⟩; have hB6 := hB5.trans (hb6.mono hB5.size)) | (go_at_call 17; refine (HO2.out _ hB6).mono ?_; rintro e w7 ⟨rfl, hb7⟩; have hB7 := hB6.trans (hb7.mono hB6.size)) | (go_at_call 18; refine (HD1.out _ hB7).mono ?_; rintro e w8 ⟨rfl, hb8⟩; have hB8 := hB7.trans (hb8.mono hB7.size)) | (go_at_call 19; refine (HD2.out _ hB8).mono ?_; rintro e w9 ⟨rfl, hb9⟩; have hB9 := hB8.trans (hb9.mono hB8.size)) | (go_at_call 20; refine (HN1.out _ hB9).mono ?_; rintro e w10 ⟨rfl, hb10⟩; have hB10 := hB9.trans (hb10.mono hB9.size)) | (go_at_call 21; refine (HN2.out _ hB10).mono ?_; rintro e w11 ⟨rfl, hb11⟩; have hB11 := hB10.trans (hb11.mono hB10.size)))
  go_ret
  exact ⟨by first | rfl | (simp; done), hB11⟩

set_option maxRecDepth 100000 in
theorem lifted (os : Os) (started : os.Started) (H : Type) (enc : TypeId × Value → H) :
    ReturnsInHanded {} Try.checked os 3 .any (Rows.termMeasuresSpec.pre6 enc Try.prog Try.f3 Rows.termMeasuresRow.domain false) (Rows.termMeasuresSpec.post enc Try.prog Try.f3 false true false false) := by
  refine returnsInHanded_of_change (C := Try.checked) own started (by kernel_rfl) Try.func3
    (ChangeSpec.witness6 (enc := enc) (C := Try.checked) false ⟨#[], #[.slice none 0 0, .int .i64 0, .int .i64 0, .int .i64 0], []⟩ 8 (by kernel_rfl) (by kernel_rfl) (by kernel_rfl) (by kernel_rfl)) ?_
  intro W base args ds gs before hval0 hW hcnd _
  have hval : ∀ (j : Nat) t v, Try.f3.params[j]? = some t → args[j]? = some v → Value.okWide Try.prog W .any base t v := hval0
  have hW' := hW
  obtain ⟨p, q, hA0, hV, rfl, hfz, hnd⟩ := hW
  have hA : DataW.TrodAll enc Try.prog W 0 (fun _ => true) true Try.f3.params.toList args.toList ds p := hA0
  rw [Try.params3] at hA hval
  obtain ⟨v0, vs0, d0, ds0, p0, q0, hargs, rfl, rfl, h0, r0⟩ := trodAll_cons hA
  obtain ⟨v1, vs1, d1, ds1, p1, q1, rfl, rfl, rfl, h1, r1⟩ := trodAll_cons r0
  obtain ⟨v2, vs2, d2, ds2, p2, q2, rfl, rfl, rfl, h2, r2⟩ := trodAll_cons r1
  obtain ⟨v3, vs3, d3, ds3, p3, q3, rfl, rfl, rfl, h3, r3⟩ := trodAll_cons r2
  obtain ⟨rfl, rfl, rfl⟩ := trodAll_nil r3
  obtain rfl : args = #[v0, v1, v2, v3] := by cases args; simp_all
  obtain ⟨rfl, rfl⟩ := trodVars_none hV
  have k0 := h0
  have lt0 : ∀ x ∈ p0, x.block < W.heap.size := by obtain ⟨m, hm⟩ := k0; exact DataW.trod_lt m _ _ _ hm
  obtain ⟨sa0, sl0, sc0, rfl⟩ := okWide_slice Try.underlying22 (hval 0 22 v0 rfl rfl)
  obtain ⟨m0, hm0⟩ := h0
  obtain ⟨xa0, xl0, xc0, zs0, hv0, hl0, hI0⟩ := links_of Try.underlying22 Try.underlying41 (by kernel_rfl) (by kernel_rfl) rfl rfl Try.underlying3 hm0
  injection hv0 with e0a e0b e0c
  subst e0a e0b e0c hl0
  have k1 := h1
  have lt1 : ∀ x ∈ p1, x.block < W.heap.size := by obtain ⟨m, hm⟩ := k1; exact DataW.trod_lt m _ _ _ hm
  obtain ⟨a1, rfl, rfl, rfl, w1⟩ := open_int Try.underlying3 (hval 1 3 v1 rfl rfl) h1
  have k2 := h2
  have lt2 : ∀ x ∈ p2, x.block < W.heap.size := by obtain ⟨m, hm⟩ := k2; exact DataW.trod_lt m _ _ _ hm
  obtain ⟨a2, rfl, rfl, rfl, w2⟩ := open_int Try.underlying3 (hval 2 3 v2 rfl rfl) h2
  have k3 := h3
  have lt3 : ∀ x ∈ p3, x.block < W.heap.size := by obtain ⟨m, hm⟩ := k3; exact DataW.trod_lt m _ _ _ hm
  obtain ⟨a3, rfl, rfl, rfl, w3⟩ := open_int Try.underlying3 (hval 3 3 v3 rfl rfl) h3
  clear hA0 hval0
  refine (walk W sa0 sc0 zs0 hI0 a1 w1 a2 w2 a3 w3).mono fun e W' ⟨he, bel⟩ => ?_
  subst he
  exact ⟨_, rfl, _, _, _, [], _, [], hW', trodAll_mk1 (shut_bool Try.underlying4 _), (trodAll_cons_mk (Below.trod laidOut (by kernel_rfl) (of_decide_eq_true (by kernel_rfl)) k0 bel lt0) (trodAll_cons_mk (Below.trod laidOut (by kernel_rfl) (of_decide_eq_true (by kernel_rfl)) k1 bel lt1) (trodAll_cons_mk (Below.trod laidOut (by kernel_rfl) (of_decide_eq_true (by kernel_rfl)) k2 bel lt2) (trodAll_cons_mk (Below.trod laidOut (by kernel_rfl) (of_decide_eq_true (by kernel_rfl)) k3 bel lt3) trodAll_mk0)))), rfl, bel.frame _, fun h => by cases h⟩

theorem over : Rows.termMeasuresRow.holds Try.pinned (OpenSpec.ofChange Rows.termMeasuresSpec) :=
  OpenClaim.holds_of_wide 3 Try.f3 rfl rfl rfl rfl rfl rfl rfl ⟨rfl, rfl, rfl, rfl, rfl⟩ rfl rfl rfl rfl rfl (by kernel_rfl) Try.func3 (by kernel_rfl)
    (of_decide_eq_true (by kernel_rfl)) (by unfold Func.isWrapper; first | (rw [if_pos (by decide +kernel)]; kernel_rfl) | (rw [if_neg (by decide +kernel)]; exact ⟨rfl, rfl⟩))
    (fun os started H enc _ => lifted os started H enc)

theorem proved : Rows.TermMeasuresSaid := over
end Go.Proofs.Ytbcndmlhbdanaaa.lawTermMeasures
