/- TermGrows: for every operation and every lists of terms, an operation with valid operands, within the limits, is a valid expression, one level deeper than its deepest operand. No condition. -/
import Derived.Test.YtbcndmlhbdanaaaLawGrows1
import Derived.Test.YtbcndmlhbdanaaaLawGrows1a
import Derived.Test.YtbcndmlhbdanaaaLawGrows2
import Derived.Test.YtbcndmlhbdanaaaLawGrows3
import Derived.ChangeMaps5
namespace Go.Proofs.Ytbcndmlhbdanaaa.lawTermGrows
open Go.RowKit Go.ChangeShapes Go.WideShapes Go.Proofs.Ytbcndmlhbdanaaa

set_option maxHeartbeats 4000000 in
theorem exits (W : World) (k : Int) (aa : Option Addr) (na ca : Nat) (ab : Option Addr) (nb cb : Nat) (ac : Option Addr) (nc cc : Nat) (la lb lc va vb vc : Bool) (hall : (la && lb && lc && va && vb && vc) = false)
    (HLa : Hid (∀ X : World, Calls Try.prog 10 #[.slice aa na ca] X fun e w' => e = .returned (.bool la) ∧ w' = X))
    (HLb : Hid (∀ X : World, Calls Try.prog 10 #[.slice ab nb cb] X fun e w' => e = .returned (.bool lb) ∧ w' = X))
    (HLc : Hid (∀ X : World, Calls Try.prog 10 #[.slice ac nc cc] X fun e w' => e = .returned (.bool lc) ∧ w' = X))
    (HVa : Hid (la = true → ∀ X : World, Below W.heap.size W X → Calls Try.prog 27 #[.slice aa na ca, .int .i64 6] X fun e w' => e = .returned (.bool va) ∧ Below X.heap.size X w'))
    (HVb : Hid (lb = true → ∀ X : World, Below W.heap.size W X → Calls Try.prog 27 #[.slice ab nb cb, .int .i64 6] X fun e w' => e = .returned (.bool vb) ∧ Below X.heap.size X w'))
    (HVc : Hid (lc = true → ∀ X : World, Below W.heap.size W X → Calls Try.prog 27 #[.slice ac nc cc, .int .i64 6] X fun e w' => e = .returned (.bool vc) ∧ Below X.heap.size X w')) :
    Calls Try.prog 7 #[.int .i64 k, .slice aa na ca, .slice ab nb cb, .slice ac nc cc] W fun e W' => e = .returned (.bool true) ∧ Below W.heap.size W W' := by
  have HAw := Lib.hid (fun (X : World) (_ : Below W.heap.size W X) => awake_any X)
  have hP := And.intro (Below.refl W.heap.size W) trivial
  cases la with
  | false =>
      go_enter Try.func7, Try.ntmps7
      go_wp2_with (first | (go_at_call 10; first | ((with_reducible refine (HLa.out _).mono ?_); rintro e wN ⟨rfl, hwN⟩; have hwN' := hwN.symm; subst hwN') | ((with_reducible refine (HLb.out _).mono ?_); rintro e wN ⟨rfl, hwN⟩; have hwN' := hwN.symm; subst hwN') | ((with_reducible refine (HLc.out _).mono ?_); rintro e wN ⟨rfl, hwN⟩; have hwN' := hwN.symm; subst hwN')) | (go_at_call 27; first | ((with_reducible refine (HVa.out (by first | trivial | rfl) _ hP.1).mono ?_); rintro e wN ⟨rfl, hbN⟩; replace hP := And.intro (hP.1.trans (hbN.mono hP.1.size)) trivial) | ((with_reducible refine (HVb.out (by first | trivial | rfl) _ hP.1).mono ?_); rintro e wN ⟨rfl, hbN⟩; replace hP := And.intro (hP.1.trans (hbN.mono hP.1.size)) trivial) | ((with_reducible refine (HVc.out (by first | trivial | rfl) _ hP.1).mono ?_); rintro e wN ⟨rfl, hbN⟩; replace hP := And.intro (hP.1.trans (hbN.mono hP.1.size)) trivial)) | (go_at_call 11; refine (HAw.out _ hP.1).mono ?_; rintro e wN ⟨rfl, hbN⟩; replace hP := And.intro (hP.1.trans (hbN.mono hP.1.size)) trivial))
      go_ret
      exact ⟨rfl, hP.1⟩
  | true =>
  cases lb with
  | false =>
      go_enter Try.func7, Try.ntmps7
      go_wp2_with (first | (go_at_call 10; first | ((with_reducible refine (HLa.out _).mono ?_); rintro e wN ⟨rfl, hwN⟩; have hwN' := hwN.symm; subst hwN') | ((with_reducible refine (HLb.out _).mono ?_); rintro e wN ⟨rfl, hwN⟩; have hwN' := hwN.symm; subst hwN') | ((with_reducible refine (HLc.out _).mono ?_); rintro e wN ⟨rfl, hwN⟩; have hwN' := hwN.symm; subst hwN')) | (go_at_call 27; first | ((with_reducible refine (HVa.out (by first | trivial | rfl) _ hP.1).mono ?_); rintro e wN ⟨rfl, hbN⟩; replace hP := And.intro (hP.1.trans (hbN.mono hP.1.size)) trivial) | ((with_reducible refine (HVb.out (by first | trivial | rfl) _ hP.1).mono ?_); rintro e wN ⟨rfl, hbN⟩; replace hP := And.intro (hP.1.trans (hbN.mono hP.1.size)) trivial) | ((with_reducible refine (HVc.out (by first | trivial | rfl) _ hP.1).mono ?_); rintro e wN ⟨rfl, hbN⟩; replace hP := And.intro (hP.1.trans (hbN.mono hP.1.size)) trivial)) | (go_at_call 11; refine (HAw.out _ hP.1).mono ?_; rintro e wN ⟨rfl, hbN⟩; replace hP := And.intro (hP.1.trans (hbN.mono hP.1.size)) trivial))
      go_ret
      exact ⟨rfl, hP.1⟩
  | true =>
  cases lc with
  | false =>
      go_enter Try.func7, Try.ntmps7
      go_wp2_with (first | (go_at_call 10; first | ((with_reducible refine (HLa.out _).mono ?_); rintro e wN ⟨rfl, hwN⟩; have hwN' := hwN.symm; subst hwN') | ((with_reducible refine (HLb.out _).mono ?_); rintro e wN ⟨rfl, hwN⟩; have hwN' := hwN.symm; subst hwN') | ((with_reducible refine (HLc.out _).mono ?_); rintro e wN ⟨rfl, hwN⟩; have hwN' := hwN.symm; subst hwN')) | (go_at_call 27; first | ((with_reducible refine (HVa.out (by first | trivial | rfl) _ hP.1).mono ?_); rintro e wN ⟨rfl, hbN⟩; replace hP := And.intro (hP.1.trans (hbN.mono hP.1.size)) trivial) | ((with_reducible refine (HVb.out (by first | trivial | rfl) _ hP.1).mono ?_); rintro e wN ⟨rfl, hbN⟩; replace hP := And.intro (hP.1.trans (hbN.mono hP.1.size)) trivial) | ((with_reducible refine (HVc.out (by first | trivial | rfl) _ hP.1).mono ?_); rintro e wN ⟨rfl, hbN⟩; replace hP := And.intro (hP.1.trans (hbN.mono hP.1.size)) trivial)) | (go_at_call 11; refine (HAw.out _ hP.1).mono ?_; rintro e wN ⟨rfl, hbN⟩; replace hP := And.intro (hP.1.trans (hbN.mono hP.1.size)) trivial))
      go_ret
      exact ⟨rfl, hP.1⟩
  | true =>
  cases va with
  | false =>
      go_enter Try.func7, Try.ntmps7
      go_wp2_with (first | (go_at_call 10; first | ((with_reducible refine (HLa.out _).mono ?_); rintro e wN ⟨rfl, hwN⟩; have hwN' := hwN.symm; subst hwN') | ((with_reducible refine (HLb.out _).mono ?_); rintro e wN ⟨rfl, hwN⟩; have hwN' := hwN.symm; subst hwN') | ((with_reducible refine (HLc.out _).mono ?_); rintro e wN ⟨rfl, hwN⟩; have hwN' := hwN.symm; subst hwN')) | (go_at_call 27; first | ((with_reducible refine (HVa.out (by first | trivial | rfl) _ hP.1).mono ?_); rintro e wN ⟨rfl, hbN⟩; replace hP := And.intro (hP.1.trans (hbN.mono hP.1.size)) trivial) | ((with_reducible refine (HVb.out (by first | trivial | rfl) _ hP.1).mono ?_); rintro e wN ⟨rfl, hbN⟩; replace hP := And.intro (hP.1.trans (hbN.mono hP.1.size)) trivial) | ((with_reducible refine (HVc.out (by first | trivial | rfl) _ hP.1).mono ?_); rintro e wN ⟨rfl, hbN⟩; replace hP := And.intro (hP.1.trans (hbN.mono hP.1.size)) trivial)) | (go_at_call 11; refine (HAw.out _ hP.1).mono ?_; rintro e wN ⟨rfl, hbN⟩; replace hP := And.intro (hP.1.trans (hbN.mono hP.1.size)) trivial))
      go_ret
      exact ⟨rfl, hP.1⟩
  | true =>
  cases vb with
  | false =>
      go_enter Try.func7, Try.ntmps7
      go_wp2_with (first | (go_at_call 10; first | ((with_reducible refine (HLa.out _).mono ?_); rintro e wN ⟨rfl, hwN⟩; have hwN' := hwN.symm; subst hwN') | ((with_reducible refine (HLb.out _).mono ?_); rintro e wN ⟨rfl, hwN⟩; have hwN' := hwN.symm; subst hwN') | ((with_reducible refine (HLc.out _).mono ?_); rintro e wN ⟨rfl, hwN⟩; have hwN' := hwN.symm; subst hwN')) | (go_at_call 27; first | ((with_reducible refine (HVa.out (by first | trivial | rfl) _ hP.1).mono ?_); rintro e wN ⟨rfl, hbN⟩; replace hP := And.intro (hP.1.trans (hbN.mono hP.1.size)) trivial) | ((with_reducible refine (HVb.out (by first | trivial | rfl) _ hP.1).mono ?_); rintro e wN ⟨rfl, hbN⟩; replace hP := And.intro (hP.1.trans (hbN.mono hP.1.size)) trivial) | ((with_reducible refine (HVc.out (by first | trivial | rfl) _ hP.1).mono ?_); rintro e wN ⟨rfl, hbN⟩; replace hP := And.intro (hP.1.trans (hbN.mono hP.1.size)) trivial)) | (go_at_call 11; refine (HAw.out _ hP.1).mono ?_; rintro e wN ⟨rfl, hbN⟩; replace hP := And.intro (hP.1.trans (hbN.mono hP.1.size)) trivial))
      go_ret
      exact ⟨rfl, hP.1⟩
  | true =>
  cases vc with
  | false =>
      go_enter Try.func7, Try.ntmps7
      go_wp2_with (first | (go_at_call 10; first | ((with_reducible refine (HLa.out _).mono ?_); rintro e wN ⟨rfl, hwN⟩; have hwN' := hwN.symm; subst hwN') | ((with_reducible refine (HLb.out _).mono ?_); rintro e wN ⟨rfl, hwN⟩; have hwN' := hwN.symm; subst hwN') | ((with_reducible refine (HLc.out _).mono ?_); rintro e wN ⟨rfl, hwN⟩; have hwN' := hwN.symm; subst hwN')) | (go_at_call 27; first | ((with_reducible refine (HVa.out (by first | trivial | rfl) _ hP.1).mono ?_); rintro e wN ⟨rfl, hbN⟩; replace hP := And.intro (hP.1.trans (hbN.mono hP.1.size)) trivial) | ((with_reducible refine (HVb.out (by first | trivial | rfl) _ hP.1).mono ?_); rintro e wN ⟨rfl, hbN⟩; replace hP := And.intro (hP.1.trans (hbN.mono hP.1.size)) trivial) | ((with_reducible refine (HVc.out (by first | trivial | rfl) _ hP.1).mono ?_); rintro e wN ⟨rfl, hbN⟩; replace hP := And.intro (hP.1.trans (hbN.mono hP.1.size)) trivial)) | (go_at_call 11; refine (HAw.out _ hP.1).mono ?_; rintro e wN ⟨rfl, hbN⟩; replace hP := And.intro (hP.1.trans (hbN.mono hP.1.size)) trivial))
      go_ret
      exact ⟨rfl, hP.1⟩
  | true =>
    exact absurd hall (by decide)
theorem walk (W : World) (k : Int) (wf1 : (Lit.int IntKind.i64 k).wf = true) (aa : Option Addr) (ca : Nat) (xa : List (Int × Int)) (hXa : LinksAt W aa xa) (ab : Option Addr) (cb : Nat) (xb : List (Int × Int)) (hXb : LinksAt W ab xb) (ac : Option Addr) (cc : Nat) (xc : List (Int × Int)) (hXc : LinksAt W ac xc) :
    Calls Try.prog 7 #[.int .i64 k, .slice aa xa.length ca, .slice ab xb.length cb, .slice ac xc.length cc] W fun e W' => e = .returned (.bool true) ∧ Below W.heap.size W W' := by
  by_cases hall : (decide (xa.length ≤ 250) && decide (xb.length ≤ 250) && decide (xc.length ≤ 250) && validE xa 6 && validE xb 6 && validE xc 6) = true
  case neg =>
    exact exits W k aa xa.length ca ab xb.length cb ac xc.length cc _ _ _ _ _ _ (by rw [Bool.not_eq_true] at hall; exact hall)
      (Lib.hid (fun X => lightE_any _ _ _ X)) (Lib.hid (fun X => lightE_any _ _ _ X)) (Lib.hid (fun X => lightE_any _ _ _ X))
      (Lib.hid (fun h X hb => validR_any _ _ _ 6 X (hXa.below hb) (by have := of_decide_eq_true h; omega)))
      (Lib.hid (fun h X hb => validR_any _ _ _ 6 X (hXb.below hb) (by have := of_decide_eq_true h; omega)))
      (Lib.hid (fun h X hb => validR_any _ _ _ 6 X (hXc.below hb) (by have := of_decide_eq_true h; omega)))
  simp only [Bool.and_eq_true, decide_eq_true_eq] at hall
  obtain ⟨⟨⟨⟨⟨h1, h2⟩, h3⟩, h4⟩, h5⟩, h6⟩ := hall
  have h64 := wf_i64 wf1
  obtain ⟨s, hs, hlt⟩ := mod_nat k (n := 26) (by omega)
  by_cases g1 : s ≤ 11
  · cases ha : aggF (18 + (s : Int)) with
    | false => exact grows1 W aa ca xa hXa ab cb xb hXb ac cc xc hXc h1 h2 h3 h4 h5 h6 k h64 s hs g1 ha
    | true => exact grows1a W aa ca xa hXa ab cb xb hXb ac cc xc hXc h1 h2 h3 h4 h5 h6 k h64 s hs g1 ha
  · by_cases g2 : s ≤ 24
    · exact grows2 W aa ca xa hXa ab cb xb hXb ac cc xc hXc h1 h2 h3 h4 h5 h6 k h64 s hs ⟨by omega, g2⟩
    · exact grows3 W aa ca xa hXa ab cb xb hXb ac cc xc hXc h1 h2 h3 h4 h5 h6 k h64 s hs (by omega)

set_option maxRecDepth 100000 in
theorem lifted (os : Os) (started : os.Started) (H : Type) (enc : TypeId × Value → H) :
    ReturnsInHanded {} Try.checked os 7 .any (Rows.termGrowsSpec.pre6 enc Try.prog Try.f7 Rows.termGrowsRow.domain false) (Rows.termGrowsSpec.post enc Try.prog Try.f7 false true false false) := by
  refine returnsInHanded_of_change (C := Try.checked) own started (by kernel_rfl) Try.func7
    (ChangeSpec.witness6 (enc := enc) (C := Try.checked) false ⟨#[], #[.int .i64 0, .slice none 0 0, .slice none 0 0, .slice none 0 0], []⟩ 8 (by kernel_rfl) (by kernel_rfl) (by kernel_rfl) (by kernel_rfl)) ?_
  intro W base args ds gs before hval0 hW hcnd _
  have hval : ∀ (j : Nat) t v, Try.f7.params[j]? = some t → args[j]? = some v → Value.okWide Try.prog W .any base t v := hval0
  have hW' := hW
  obtain ⟨p, q, hA0, hV, rfl, hfz, hnd⟩ := hW
  have hA : DataW.TrodAll enc Try.prog W 0 (fun _ => true) true Try.f7.params.toList args.toList ds p := hA0
  rw [Try.params7] at hA hval
  obtain ⟨v0, vs0, d0, ds0, p0, q0, hargs, rfl, rfl, h0, r0⟩ := trodAll_cons hA
  obtain ⟨v1, vs1, d1, ds1, p1, q1, rfl, rfl, rfl, h1, r1⟩ := trodAll_cons r0
  obtain ⟨v2, vs2, d2, ds2, p2, q2, rfl, rfl, rfl, h2, r2⟩ := trodAll_cons r1
  obtain ⟨v3, vs3, d3, ds3, p3, q3, rfl, rfl, rfl, h3, r3⟩ := trodAll_cons r2
  obtain ⟨rfl, rfl, rfl⟩ := trodAll_nil r3
  obtain rfl : args = #[v0, v1, v2, v3] := by cases args; simp_all
  obtain ⟨rfl, rfl⟩ := trodVars_none hV
  have k0 := h0
  have lt0 : ∀ x ∈ p0, x.block < W.heap.size := by obtain ⟨m, hm⟩ := k0; exact DataW.trod_lt m _ _ _ hm
  obtain ⟨a0, rfl, rfl, rfl, w0⟩ := open_int Try.underlying3 (hval 0 3 v0 rfl rfl) h0
  have k1 := h1
  have lt1 : ∀ x ∈ p1, x.block < W.heap.size := by obtain ⟨m, hm⟩ := k1; exact DataW.trod_lt m _ _ _ hm
  obtain ⟨sa1, sl1, sc1, rfl⟩ := okWide_slice Try.underlying22 (hval 1 22 v1 rfl rfl)
  obtain ⟨m1, hm1⟩ := h1
  obtain ⟨xa1, xl1, xc1, zs1, hv1, hl1, hI1⟩ := links_of Try.underlying22 Try.underlying41 (by kernel_rfl) (by kernel_rfl) rfl rfl Try.underlying3 hm1
  injection hv1 with e1a e1b e1c
  subst e1a e1b e1c hl1
  have k2 := h2
  have lt2 : ∀ x ∈ p2, x.block < W.heap.size := by obtain ⟨m, hm⟩ := k2; exact DataW.trod_lt m _ _ _ hm
  obtain ⟨sa2, sl2, sc2, rfl⟩ := okWide_slice Try.underlying22 (hval 2 22 v2 rfl rfl)
  obtain ⟨m2, hm2⟩ := h2
  obtain ⟨xa2, xl2, xc2, zs2, hv2, hl2, hI2⟩ := links_of Try.underlying22 Try.underlying41 (by kernel_rfl) (by kernel_rfl) rfl rfl Try.underlying3 hm2
  injection hv2 with e2a e2b e2c
  subst e2a e2b e2c hl2
  have k3 := h3
  have lt3 : ∀ x ∈ p3, x.block < W.heap.size := by obtain ⟨m, hm⟩ := k3; exact DataW.trod_lt m _ _ _ hm
  obtain ⟨sa3, sl3, sc3, rfl⟩ := okWide_slice Try.underlying22 (hval 3 22 v3 rfl rfl)
  obtain ⟨m3, hm3⟩ := h3
  obtain ⟨xa3, xl3, xc3, zs3, hv3, hl3, hI3⟩ := links_of Try.underlying22 Try.underlying41 (by kernel_rfl) (by kernel_rfl) rfl rfl Try.underlying3 hm3
  injection hv3 with e3a e3b e3c
  subst e3a e3b e3c hl3
  clear hA0 hval0
  refine (walk W a0 w0 sa1 sc1 zs1 hI1 sa2 sc2 zs2 hI2 sa3 sc3 zs3 hI3).mono fun e W' ⟨he, bel⟩ => ?_
  subst he
  exact ⟨_, rfl, _, _, _, [], _, [], hW', trodAll_mk1 (shut_bool Try.underlying4 _), (trodAll_cons_mk (Below.trod laidOut (by kernel_rfl) (of_decide_eq_true (by kernel_rfl)) k0 bel lt0) (trodAll_cons_mk (Below.trod laidOut (by kernel_rfl) (of_decide_eq_true (by kernel_rfl)) k1 bel lt1) (trodAll_cons_mk (Below.trod laidOut (by kernel_rfl) (of_decide_eq_true (by kernel_rfl)) k2 bel lt2) (trodAll_cons_mk (Below.trod laidOut (by kernel_rfl) (of_decide_eq_true (by kernel_rfl)) k3 bel lt3) trodAll_mk0)))), rfl, bel.frame _, fun h => by cases h⟩

theorem over : Rows.termGrowsRow.holds Try.pinned (OpenSpec.ofChange Rows.termGrowsSpec) :=
  OpenClaim.holds_of_wide 7 Try.f7 rfl rfl rfl rfl rfl rfl rfl ⟨rfl, rfl, rfl, rfl, rfl⟩ rfl rfl rfl rfl rfl (by kernel_rfl) Try.func7 (by kernel_rfl)
    (of_decide_eq_true (by kernel_rfl)) (by unfold Func.isWrapper; first | (rw [if_pos (by decide +kernel)]; kernel_rfl) | (rw [if_neg (by decide +kernel)]; exact ⟨rfl, rfl⟩))
    (fun os started H enc _ => lifted os started H enc)

theorem proved : Rows.TermGrowsSaid := over
end Go.Proofs.Ytbcndmlhbdanaaa.lawTermGrows
