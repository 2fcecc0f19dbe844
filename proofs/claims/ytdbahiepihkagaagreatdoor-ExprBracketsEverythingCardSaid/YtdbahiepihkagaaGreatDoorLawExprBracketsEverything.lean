/- ExprBracketsEverything: with brackets around every operand Parse reads the same terms, and the text is no shorter than what Format writes, where the law asks it. No condition. -/
import Derived.Test.YtdbahiepihkagaaGreatDoorExprW4
import Derived.Test.YtdbahiepihkagaaGreatDoorLawE
namespace Go.Proofs.YtdbahiepihkagaaGreatDoor
set_option maxRecDepth 100000
open Go.ChangeShapes Go.WideShapes Go.ChangeAt Go.RowKit

namespace lawExprBracketsEverything
theorem gl_all {W : World} (_ : W.ShapedOpen Tryz.prog) (hL : laidMet Tryz.prog Rows.exprBracketsEverythingRow.laid W) : Lay6 W := ⟨words_of hL (.tail _ (.tail _ (.tail _ (.head _)))), tb_of hL (.tail _ (.tail _ (.head _)))⟩
theorem walk (W : World) (hg : Lay6 W) (a0 : Option Addr) (c0 : Nat) (xs0 : List (Int × Int)) (hX0 : LinksAt W a0 xs0) (hcap0 : xs0.length ≤ c0) (na1 : Option Addr) (nc1 : Nat) (ns1 : List Bytes) (hN1 : NamesAt W na1 ns1) (hc1 : ns1.length ≤ nc1) :
    Calls Tryz.prog 7 #[.slice a0 xs0.length c0, .slice na1 ns1.length nc1] W fun e W' => e = .returned (.bool true) ∧ Below W.heap.size W W' := exprBrackets_walk W hg a0 c0 xs0 hX0 hcap0 na1 nc1 ns1 hN1 hc1

set_option maxRecDepth 100000 in
theorem lifted (os : Os) (started : os.Started) (H : Type) (enc : TypeId × Value → H) :
    ReturnsInHanded {} Tryz.checked os 7 .any (fun w args => (Rows.exprBracketsEverythingSpec.pre enc Tryz.prog Tryz.f7 [] false w args ∧ laidMetH Tryz.prog Rows.exprBracketsEverythingRow.laid w) ∧ sizedMet enc Tryz.prog Tryz.f7 (OpenSpec.ofChange Rows.exprBracketsEverythingSpec) false w args)
      (Rows.exprBracketsEverythingSpec.post enc Tryz.prog Tryz.f7 false true false false) := by
  refine shaped_and (C := Tryz.checked) (X := fun w _ => laidMetH Tryz.prog Rows.exprBracketsEverythingRow.laid w) (fun _ _ _ hh h => h.of_heap hh) own started (by kernel_rfl) Tryz.func7
    (ChangeSpec.witness_shaped (enc := enc) (C := Tryz.checked) (os := os) (X := fun w _ => laidMetH Tryz.prog Rows.exprBracketsEverythingRow.laid w) false (World.laidAll Tryz.prog os Rows.exprBracketsEverythingRow.laid) #[.slice none 0 0, .slice none 0 0] 8 (World.laidAll_os _ _ _)
      (World.shaped_of_ZipB (by kernel_rfl) (by kernel_rfl)) (by kernel_rfl) (by kernel_rfl) (by kernel_rfl)
      (by rw [MakeChecks.laidMetH_plain _ _ _ (by kernel_rfl)]; exact laidMet_laidAll _ (by kernel_rfl) (by kernel_rfl))) ?_
  intro W base args ds gs before hval0 hW hL hsh
  have hval : ∀ (j : Nat) t v, Tryz.f7.params[j]? = some t → args[j]? = some v → Value.okWide Tryz.prog W .any base t v := hval0
  have hW' := hW
  obtain ⟨p, q, hA0, hV, rfl, hfz, hnd⟩ := hW
  have hA : DataW.TrodAll enc Tryz.prog W 0 (fun _ => true) true Tryz.f7.params.toList args.toList ds p := hA0
  rw [Tryz.params7] at hA hval
  obtain ⟨v0, vs0, d0, ds0, p0, q0, hargs, rfl, rfl, h0, r0⟩ := trodAll_cons hA
  obtain ⟨v1, vs1, d1, ds1, p1, q1, rfl, rfl, rfl, h1, r1⟩ := trodAll_cons r0
  obtain ⟨rfl, rfl, rfl⟩ := trodAll_nil r1
  obtain rfl : args = #[v0, v1] := by cases args; simp_all
  obtain ⟨rfl, rfl⟩ := trodVars_none hV
  have k0 := h0
  have lt0 : ∀ x ∈ p0, x.block < W.heap.size := by obtain ⟨m, hm⟩ := k0; exact DataW.trod_lt m _ _ _ hm
  obtain ⟨sa0, sl0, sc0, rfl⟩ := okWide_slice Tryz.underlying25 (hval 0 25 v0 rfl rfl)
  obtain ⟨m0, hm0⟩ := h0
  have hcp0 := links_cap6 Tryz.underlying25 hm0
  obtain ⟨xa0, xl0, xc0, zs0, hv0, hl0, hI0⟩ := links_of Tryz.underlying25 Tryz.underlying55 (by kernel_rfl) (by kernel_rfl) rfl rfl Tryz.underlying3 hm0
  injection hv0 with e0a e0b e0c
  subst e0a e0b e0c hl0
  have k1 := h1
  have lt1 : ∀ x ∈ p1, x.block < W.heap.size := by obtain ⟨m, hm⟩ := k1; exact DataW.trod_lt m _ _ _ hm
  obtain ⟨sa1, sl1, sc1, rfl⟩ := okWide_slice Tryz.underlying22 (hval 1 22 v1 rfl rfl)
  obtain ⟨m1, hm1⟩ := h1
  obtain ⟨xa1, xl1, xc1, zs1, hv1, hl1, hI1, hcp1⟩ := names_of Tryz.underlying22 Tryz.underlying9 (by kernel_rfl) hm1
  injection hv1 with e1a e1b e1c
  subst e1a e1b e1c hl1
  clear hA0 hval0
  rw [MakeChecks.laidMetH_plain _ _ _ (by kernel_rfl)] at hL
  refine (walk W (gl_all hsh hL) sa0 sc0 zs0 hI0 hcp0 sa1 sc1 zs1 hI1 hcp1).mono fun e W' ⟨he, bel⟩ => ?_
  subst he
  exact ⟨_, rfl, _, _, _, [], _, [], hW', trodAll_mk1 (shut_bool Tryz.underlying4 _), (trodAll_cons_mk (Below.trod laidOut (by kernel_rfl) (of_decide_eq_true (by kernel_rfl)) k0 bel lt0) (trodAll_cons_mk (Below.trod laidOut (by kernel_rfl) (of_decide_eq_true (by kernel_rfl)) k1 bel lt1) trodAll_mk0)), rfl, bel.frame _, fun h => by cases h⟩

theorem over : Rows.exprBracketsEverythingRow.holds Tryz.pinned (OpenSpec.ofChange Rows.exprBracketsEverythingSpec) :=
  OpenClaim.holds_of_wide 7 Tryz.f7 rfl rfl rfl rfl rfl rfl rfl ⟨rfl, rfl, rfl, rfl, rfl⟩ rfl rfl rfl rfl rfl (by kernel_rfl) Tryz.func7 (by kernel_rfl)
    (of_decide_eq_true (by kernel_rfl)) (by unfold Func.isWrapper; first | (rw [if_pos (by decide +kernel)]; kernel_rfl) | (rw [if_neg (by decide +kernel)]; exact ⟨rfl, rfl⟩))
    (fun os started H enc _ => lifted os started H enc)

theorem proved : Rows.ExprBracketsEverythingCardSaid :=
  Claim7.holds_tied_plain_at .later [] Rows.exprBracketsEverythingCard.laidKinds true Rows.exprBracketsEverythingCard.stood.harness Rows.exprBracketsEverythingCard.stood.looks over (fun _ h => by cases h) (by kernel_rfl) (fun _ h => by cases h) exprBracketsEverything_row_tie rfl ⟨rfl, rfl⟩ (by kernel_rfl) rfl
    (fun f fn hf hfn => by
      obtain rfl : f = 7 := Option.some.inj ((show Tryz.prog.funcNamed "selfstab/selfstablaw06.ExprBracketsEverything" = some 7 by kernel_rfl).symm.trans hf) |>.symm
      obtain rfl : fn = Tryz.f7 := (Option.some.inj (Tryz.func7.symm.trans hfn)).symm
      exact ⟨by kernel_rfl, fun j t ht => by
        rw [Tryz.params7] at ht
        have hm : t ∈ [25, 22] := by simpa using Array.mem_of_getElem? ht
        have hall : ([25, 22].all fun u => !Tryz.prog.wantsStandIn u) = true := by kernel_rfl
        exact (show Tryz.prog.wantsStandIn t = false by simpa using List.all_eq_true.1 hall t hm)⟩)
    (by kernel_rfl)
end lawExprBracketsEverything
end Go.Proofs.YtdbahiepihkagaaGreatDoor
