/- Ring, Path, Star, Complete, Grid and FromParents return the specified graphs and errors. No conditions: every input. -/
import Derived.Test.YtkffpipcjdhbaaaLaw3
import Derived.OpenShut
import Derived.ChangeOld
namespace Go.Proofs.Ytkffpipcjdhbaaa.lawFamilyMakes
open Go.ChangeShapes Go.WideShapes Go.ChangeAt Go.RowKit
set_option linter.unusedVariables false

set_option maxRecDepth 100000 in
set_option maxHeartbeats 4000000 in
theorem walk (w : World) (a0 : Int) (wf0 : (Lit.int .i64 a0).wf = true) (a1 : Int) (wf1 : (Lit.int .i64 a1).wf = true) (a2 : Int) (wf2 : (Lit.int .i64 a2).wf = true) (sa : Option Addr) (sc : Nat) (zs : List Int) (hI : IntsAt w sa zs) :
    Calls Try.prog 3 #[.int .i64 a0, .int .i64 a1, .int .i64 a2, .slice sa zs.length sc] w fun e w' => e = .returned (.bool true) ∧ Below w.heap.size w w' := by
  have hzl := hI.size
  unfold maxLen at hzl
  by_cases hl : 40 < zs.length
  · clear hI
    generalize zs.length = m at *
    go_enter Try.func3, Try.ntmps3
    go_wp2_with (go_at_call 10; refine (awake_any _).mono ?_; rintro e w1 ⟨rfl, hb1⟩)
    go_ret
    exact ⟨rfl, hb1⟩
  obtain ⟨m, hm⟩ : ∃ m, m = zs.length := ⟨_, rfl⟩
  have Hpar : Hid (∀ W : World, Below w.heap.size w W → Calls Try.prog 22 #[.slice sa m sc] W fun e w' => FamOwn W.heap.size (parO zs) e w' ∧ Below W.heap.size W w') := Lib.hid (fun W hb => by
    rw [hm, ← par_eq]
    exact parP_any sa sc zs W (hI.below hb))
  have Hpar2 : Hid (∀ W : World, Below w.heap.size w W → Calls Try.prog 23 #[.slice sa m sc] W fun e w' => FamOwn W.heap.size (parO zs) e w' ∧ Below W.heap.size W w') := Lib.hid (fun W hb => by
    rw [hm]
    exact parents_any sa sc zs W (hI.below hb))
  rw [← hm] at hl hzl ⊢
  clear hm hI
  go_enter Try.func3, Try.ntmps3
  go_wp2_with fail
  refine (ringP_any a0 _).mono ?_
  rintro e w1 ⟨⟨p1, l1, c1, p2, l2, c2, k, rfl, hO⟩, hb1⟩
  unfold famRet
  obtain ⟨hG, rfl⟩ := hO.graph
  go_wp2_with fail
  obtain ⟨u1, hu1⟩ : ∃ u1, u1 = w1.alloc (.cells #[.slice p1 l1 c1, .slice p2 l2 c2] 26) := ⟨_, rfl⟩
  rw [← hu1]
  refine (ring_any a0 _).mono ?_
  rintro e w2 ⟨⟨q1, m1, d1, q2, m2, d2, k, rfl, hO2⟩, hb2⟩
  unfold famRet
  obtain ⟨hG2, rfl⟩ := hO2.graph
  have hX := Boxes.make (z0 := .slice q1 m1 d1) (z1 := .slice q2 m2 d2) (u := 26) hb1 (hu1 ▸ hb2)
  have hs : Below w1.heap.size w1 u1 := by rw [hu1]; exact (Below.refl _ _).alloc (Nat.le_refl _) _
  have hGa := ((hG.below hs).below hb2).alloc (.cells #[.slice q1 m1 d1, .slice q2 m2 d2] 26)
  have hGb := hG2.alloc (.cells #[.slice q1 m1 d1, .slice q2 m2 d2] 26)
  obtain ⟨A, hA⟩ : ∃ A, A = w1.heap.size := ⟨_, rfl⟩
  have z0 := hX.a0
  have z1 := hX.a1
  have z2 := hX.b0
  have z3 := hX.b1
  rw [← hA] at hX z0 z1 ⊢
  clear hb1 hb2 hG hG2 hO hO2 hs hu1 hA
  go_wp2_with fail
  obtain ⟨B, hB⟩ : ∃ B, B = w2.heap.size := ⟨_, rfl⟩
  obtain ⟨v2, hv2⟩ : ∃ v2, v2 = w2.alloc (.cells #[.slice q1 m1 d1, .slice q2 m2 d2] 26) := ⟨_, rfl⟩
  rw [← hv2] at hX hGa hGb ⊢
  clear z2 z3
  have z2 := z0
  have z3 := z1
  rw [← hB] at hX ⊢
  clear hB hv2
  refine (same_any _ _ _ _ _ _ _ _ _ _ _ _ _ _ _ hGa hGb).mono ?_
  rintro e v ⟨rfl, hbs⟩
  rw [sameB_mk rfl rfl]
  replace hX := hX.below hbs
  clear hbs hGa hGb z0 z1 z2 z3
  go_wp2_with fail
  refine (path_eq a0 ▸ pathP_any a0 v).mono ?_
  rintro e w1 ⟨⟨p1, l1, c1, p2, l2, c2, k, rfl, hO⟩, hb1⟩
  unfold famRet
  have hAv := cell_lt hX.a0
  have hBv := cell_lt hX.b0
  have hvs := hb1.size
  replace hX := hX.below hb1
  have z0 := hX.a0
  have z1 := hX.a1
  have f0 := hX.fa0
  have f1 := hX.fa1
  clear hb1
  go_wp2_with fail
  obtain ⟨u, hu⟩ : ∃ u, u = (w1.setCell ⟨A, 0, none⟩ (.slice p1 l1 c1)).setCell ⟨A, 1, none⟩ (.slice p2 l2 c2) := ⟨_, rfl⟩
  replace hO := hO.far ((grown_set w1 A 0 (.slice p1 l1 c1)).trans (grown_set _ A 1 (.slice p2 l2 c2))) hAv
  replace hX := hX.putA (.slice p1 l1 c1) (.slice p2 l2 c2)
  rw [← hu] at hO hX ⊢
  obtain ⟨_, rfl⟩ := hO.graph
  clear hu z0 z1 f0 f1
  refine (path_any a0 u).mono ?_
  rintro e w2 ⟨⟨q1, m1, d1, q2, m2, d2, k, rfl, hO2⟩, hb2⟩
  unfold famRet
  have hBu := cell_lt hX.b0
  replace hX := hX.below hb2
  have z0 := hX.b0
  have z1 := hX.b1
  have f0 := hX.fb0
  have f1 := hX.fb1
  have hg := (grown_set w2 B 0 (.slice q1 m1 d1)).trans (grown_set _ B 1 (.slice q2 m2 d2))
  replace hO := (hO.below hb2).far hg hBv
  replace hO2 := hO2.far hg hBu
  obtain ⟨hGa, _⟩ := hO.graph
  obtain ⟨hGb, rfl⟩ := hO2.graph
  replace hX := hX.putB (.slice q1 m1 d1) (.slice q2 m2 d2)
  have y0 := hX.a0
  have y1 := hX.a1
  have y2 := hX.b0
  have y3 := hX.b1
  clear hb2 hg hO hO2 hAv hBv hBu hvs
  go_wp2_with fail
  obtain ⟨v2, hv2⟩ : ∃ v2, v2 = (w2.setCell ⟨B, 0, none⟩ (.slice q1 m1 d1)).setCell ⟨B, 1, none⟩ (.slice q2 m2 d2) := ⟨_, rfl⟩
  rw [← hv2] at hX hGa hGb ⊢
  have z2 := z0
  have z3 := z1
  clear hv2 y0 y1 y2 y3 f0 f1
  refine (same_any _ _ _ _ _ _ _ _ _ _ _ _ _ _ _ hGa hGb).mono ?_
  rintro e v ⟨rfl, hbs⟩
  rw [sameB_mk rfl rfl]
  replace hX := hX.below hbs
  clear hbs hGa hGb z0 z1 z2 z3
  go_wp2_with fail
  refine (star_eq a0 ▸ starP_any a0 v).mono ?_
  rintro e w1 ⟨⟨p1, l1, c1, p2, l2, c2, k, rfl, hO⟩, hb1⟩
  unfold famRet
  have hAv := cell_lt hX.a0
  have hBv := cell_lt hX.b0
  have hvs := hb1.size
  replace hX := hX.below hb1
  have z0 := hX.a0
  have z1 := hX.a1
  have f0 := hX.fa0
  have f1 := hX.fa1
  clear hb1
  go_wp2_with fail
  obtain ⟨u, hu⟩ : ∃ u, u = (w1.setCell ⟨A, 0, none⟩ (.slice p1 l1 c1)).setCell ⟨A, 1, none⟩ (.slice p2 l2 c2) := ⟨_, rfl⟩
  replace hO := hO.far ((grown_set w1 A 0 (.slice p1 l1 c1)).trans (grown_set _ A 1 (.slice p2 l2 c2))) hAv
  replace hX := hX.putA (.slice p1 l1 c1) (.slice p2 l2 c2)
  rw [← hu] at hO hX ⊢
  obtain ⟨_, rfl⟩ := hO.graph
  clear hu z0 z1 f0 f1
  refine (star_any a0 u).mono ?_
  rintro e w2 ⟨⟨q1, m1, d1, q2, m2, d2, k, rfl, hO2⟩, hb2⟩
  unfold famRet
  have hBu := cell_lt hX.b0
  replace hX := hX.below hb2
  have z0 := hX.b0
  have z1 := hX.b1
  have f0 := hX.fb0
  have f1 := hX.fb1
  have hg := (grown_set w2 B 0 (.slice q1 m1 d1)).trans (grown_set _ B 1 (.slice q2 m2 d2))
  replace hO := (hO.below hb2).far hg hBv
  replace hO2 := hO2.far hg hBu
  obtain ⟨hGa, _⟩ := hO.graph
  obtain ⟨hGb, rfl⟩ := hO2.graph
  replace hX := hX.putB (.slice q1 m1 d1) (.slice q2 m2 d2)
  have y0 := hX.a0
  have y1 := hX.a1
  have y2 := hX.b0
  have y3 := hX.b1
  clear hb2 hg hO hO2 hAv hBv hBu hvs
  go_wp2_with fail
  obtain ⟨v2, hv2⟩ : ∃ v2, v2 = (w2.setCell ⟨B, 0, none⟩ (.slice q1 m1 d1)).setCell ⟨B, 1, none⟩ (.slice q2 m2 d2) := ⟨_, rfl⟩
  rw [← hv2] at hX hGa hGb ⊢
  have z2 := z0
  have z3 := z1
  clear hv2 y0 y1 y2 y3 f0 f1
  refine (same_any _ _ _ _ _ _ _ _ _ _ _ _ _ _ _ hGa hGb).mono ?_
  rintro e v ⟨rfl, hbs⟩
  rw [sameB_mk rfl rfl]
  replace hX := hX.below hbs
  clear hbs hGa hGb z0 z1 z2 z3
  go_wp2_with fail
  refine (comp_eq a0 ▸ complP_any a0 v).mono ?_
  rintro e w1 ⟨⟨p1, l1, c1, p2, l2, c2, k, rfl, hO⟩, hb1⟩
  unfold famRet
  have hAv := cell_lt hX.a0
  have hBv := cell_lt hX.b0
  have hvs := hb1.size
  replace hX := hX.below hb1
  have z0 := hX.a0
  have z1 := hX.a1
  have f0 := hX.fa0
  have f1 := hX.fa1
  clear hb1
  go_wp2_with fail
  obtain ⟨u, hu⟩ : ∃ u, u = (w1.setCell ⟨A, 0, none⟩ (.slice p1 l1 c1)).setCell ⟨A, 1, none⟩ (.slice p2 l2 c2) := ⟨_, rfl⟩
  replace hO := hO.far ((grown_set w1 A 0 (.slice p1 l1 c1)).trans (grown_set _ A 1 (.slice p2 l2 c2))) hAv
  replace hX := hX.putA (.slice p1 l1 c1) (.slice p2 l2 c2)
  rw [← hu] at hO hX ⊢
  obtain ⟨_, rfl⟩ := hO.graph
  clear hu z0 z1 f0 f1
  refine (complete_any a0 u).mono ?_
  rintro e w2 ⟨⟨q1, m1, d1, q2, m2, d2, k, rfl, hO2⟩, hb2⟩
  unfold famRet
  have hBu := cell_lt hX.b0
  replace hX := hX.below hb2
  have z0 := hX.b0
  have z1 := hX.b1
  have f0 := hX.fb0
  have f1 := hX.fb1
  have hg := (grown_set w2 B 0 (.slice q1 m1 d1)).trans (grown_set _ B 1 (.slice q2 m2 d2))
  replace hO := (hO.below hb2).far hg hBv
  replace hO2 := hO2.far hg hBu
  obtain ⟨hGa, _⟩ := hO.graph
  obtain ⟨hGb, rfl⟩ := hO2.graph
  replace hX := hX.putB (.slice q1 m1 d1) (.slice q2 m2 d2)
  have y0 := hX.a0
  have y1 := hX.a1
  have y2 := hX.b0
  have y3 := hX.b1
  clear hb2 hg hO hO2 hAv hBv hBu hvs
  go_wp2_with fail
  obtain ⟨v2, hv2⟩ : ∃ v2, v2 = (w2.setCell ⟨B, 0, none⟩ (.slice q1 m1 d1)).setCell ⟨B, 1, none⟩ (.slice q2 m2 d2) := ⟨_, rfl⟩
  rw [← hv2] at hX hGa hGb ⊢
  have z2 := z0
  have z3 := z1
  clear hv2 y0 y1 y2 y3 f0 f1
  refine (same_any _ _ _ _ _ _ _ _ _ _ _ _ _ _ _ hGa hGb).mono ?_
  rintro e v ⟨rfl, hbs⟩
  rw [sameB_mk rfl rfl]
  replace hX := hX.below hbs
  clear hbs hGa hGb z0 z1 z2 z3
  go_wp2_with fail
  refine (grid_eq a1 a2 ▸ gridP_any a1 a2 v).mono ?_
  rintro e w1 ⟨⟨p1, l1, c1, p2, l2, c2, k, rfl, hO⟩, hb1⟩
  unfold famRet
  have hAv := cell_lt hX.a0
  have hBv := cell_lt hX.b0
  have hvs := hb1.size
  replace hX := hX.below hb1
  have z0 := hX.a0
  have z1 := hX.a1
  have f0 := hX.fa0
  have f1 := hX.fa1
  clear hb1
  go_wp2_with fail
  obtain ⟨u, hu⟩ : ∃ u, u = (w1.setCell ⟨A, 0, none⟩ (.slice p1 l1 c1)).setCell ⟨A, 1, none⟩ (.slice p2 l2 c2) := ⟨_, rfl⟩
  replace hO := hO.far ((grown_set w1 A 0 (.slice p1 l1 c1)).trans (grown_set _ A 1 (.slice p2 l2 c2))) hAv
  replace hX := hX.putA (.slice p1 l1 c1) (.slice p2 l2 c2)
  rw [← hu] at hO hX ⊢
  obtain ⟨_, rfl⟩ := hO.graph
  clear hu z0 z1 f0 f1
  refine (grid_any a1 a2 u).mono ?_
  rintro e w2 ⟨⟨q1, m1, d1, q2, m2, d2, k, rfl, hO2⟩, hb2⟩
  unfold famRet
  have hBu := cell_lt hX.b0
  replace hX := hX.below hb2
  have z0 := hX.b0
  have z1 := hX.b1
  have f0 := hX.fb0
  have f1 := hX.fb1
  have hg := (grown_set w2 B 0 (.slice q1 m1 d1)).trans (grown_set _ B 1 (.slice q2 m2 d2))
  replace hO := (hO.below hb2).far hg hBv
  replace hO2 := hO2.far hg hBu
  obtain ⟨hGa, _⟩ := hO.graph
  obtain ⟨hGb, rfl⟩ := hO2.graph
  replace hX := hX.putB (.slice q1 m1 d1) (.slice q2 m2 d2)
  have y0 := hX.a0
  have y1 := hX.a1
  have y2 := hX.b0
  have y3 := hX.b1
  clear hb2 hg hO hO2 hAv hBv hBu hvs
  go_wp2_with fail
  obtain ⟨v2, hv2⟩ : ∃ v2, v2 = (w2.setCell ⟨B, 0, none⟩ (.slice q1 m1 d1)).setCell ⟨B, 1, none⟩ (.slice q2 m2 d2) := ⟨_, rfl⟩
  rw [← hv2] at hX hGa hGb ⊢
  have z2 := z0
  have z3 := z1
  clear hv2 y0 y1 y2 y3 f0 f1
  refine (same_any _ _ _ _ _ _ _ _ _ _ _ _ _ _ _ hGa hGb).mono ?_
  rintro e v ⟨rfl, hbs⟩
  rw [sameB_mk rfl rfl]
  replace hX := hX.below hbs
  clear hbs hGa hGb z0 z1 z2 z3
  go_wp2_with fail
  refine (Hpar.out v hX.fr).mono ?_
  rintro e w1 ⟨⟨p1, l1, c1, p2, l2, c2, k, rfl, hO⟩, hb1⟩
  unfold famRet
  have hAv := cell_lt hX.a0
  have hBv := cell_lt hX.b0
  have hvs := hb1.size
  replace hX := hX.below hb1
  have z0 := hX.a0
  have z1 := hX.a1
  have f0 := hX.fa0
  have f1 := hX.fa1
  clear hb1
  go_wp2_with fail
  obtain ⟨u, hu⟩ : ∃ u, u = (w1.setCell ⟨A, 0, none⟩ (.slice p1 l1 c1)).setCell ⟨A, 1, none⟩ (.slice p2 l2 c2) := ⟨_, rfl⟩
  replace hO := hO.far ((grown_set w1 A 0 (.slice p1 l1 c1)).trans (grown_set _ A 1 (.slice p2 l2 c2))) hAv
  replace hX := hX.putA (.slice p1 l1 c1) (.slice p2 l2 c2)
  rw [← hu] at hO hX ⊢
  obtain ⟨_, rfl⟩ := hO.graph
  clear hu z0 z1 f0 f1
  refine (Hpar2.out u hX.fr).mono ?_
  rintro e w2 ⟨⟨q1, m1, d1, q2, m2, d2, k, rfl, hO2⟩, hb2⟩
  unfold famRet
  have hBu := cell_lt hX.b0
  replace hX := hX.below hb2
  have z0 := hX.b0
  have z1 := hX.b1
  have f0 := hX.fb0
  have f1 := hX.fb1
  have hg := (grown_set w2 B 0 (.slice q1 m1 d1)).trans (grown_set _ B 1 (.slice q2 m2 d2))
  replace hO := (hO.below hb2).far hg hBv
  replace hO2 := hO2.far hg hBu
  obtain ⟨hGa, _⟩ := hO.graph
  obtain ⟨hGb, rfl⟩ := hO2.graph
  replace hX := hX.putB (.slice q1 m1 d1) (.slice q2 m2 d2)
  have y0 := hX.a0
  have y1 := hX.a1
  have y2 := hX.b0
  have y3 := hX.b1
  clear hb2 hg hO hO2 hAv hBv hBu hvs
  go_wp2_with fail
  obtain ⟨v2, hv2⟩ : ∃ v2, v2 = (w2.setCell ⟨B, 0, none⟩ (.slice q1 m1 d1)).setCell ⟨B, 1, none⟩ (.slice q2 m2 d2) := ⟨_, rfl⟩
  rw [← hv2] at hX hGa hGb ⊢
  have z2 := z0
  have z3 := z1
  clear hv2 y0 y1 y2 y3 f0 f1
  refine (awake_any _).mono ?_
  rintro e v ⟨rfl, hba⟩
  replace hX := hX.below hba
  replace hGa := hGa.below hba
  replace hGb := hGb.below hba
  have y0 := hX.a0
  have y1 := hX.a1
  have y2 := hX.b0
  have y3 := hX.b1
  clear hba
  go_wp2_with fail
  refine (same_any _ _ _ _ _ _ _ _ _ _ _ _ _ _ _ hGa hGb).mono ?_
  rintro e v ⟨rfl, hbs⟩
  rw [sameB_mk rfl rfl]
  replace hX := hX.below hbs
  go_wp2_with fail
  go_ret
  exact ⟨rfl, hX.fr⟩

set_option maxRecDepth 100000 in
theorem lifted (os : Os) (started : os.Started) (H : Type) (enc : TypeId × Value → H) :
    ReturnsInHanded {} Try.checked os 3 .any (Rows.familyMakesSpec.pre6 enc Try.prog Try.f3 Rows.familyMakesRow.domain false) (Rows.familyMakesSpec.post enc Try.prog Try.f3 false true false false) := by
  refine returnsInHanded_of_change (C := Try.checked) own started (by kernel_rfl) Try.func3
    (ChangeSpec.witness6 (enc := enc) (C := Try.checked) false ⟨#[], #[.int .i64 0, .int .i64 0, .int .i64 0, .slice none 0 0], []⟩ 8 (by kernel_rfl) (by kernel_rfl) (by kernel_rfl) (by kernel_rfl)) ?_
  intro W base args ds gs before hval0 hW hcnd _
  have hval : ∀ (j : Nat) t v, Try.f3.params[j]? = some t → args[j]? = some v → Value.okWide Try.prog W .any base t v := hval0
  have hW' := hW
  obtain ⟨p, q, hA0, hV, rfl, hfz, hnd⟩ := hW
  have hA : DataW.TrodAll enc Try.prog W 0 (fun _ => true) true Try.f3.params.toList args.toList ds p := hA0
  rw [Try.params3] at hA hval
  obtain ⟨v0, vs0, d0, ds0, p0, q0, hargs, rfl, rfl, h0, r0⟩ := trodAll_cons hA
  obtain ⟨v1, vs1, d1, ds1, p1, q1, rfl, rfl, rfl, h1, r1⟩ := trodAll_cons r0
  obtain ⟨v2, vs2, d2, ds2, p2, q2, rfl, rfl, rfl, h2, r2⟩ := trodAll_cons r1
  obtain ⟨v3, vs3, d3, ds3, p3, q3, rfl, rfl, rfl, h3, r3⟩ := trodAll_cons r2
  obtain ⟨rfl, rfl, rfl⟩ := trodAll_nil r3
  obtain rfl : args = #[v0, v1, v2, v3] := by cases args; simp_all
  obtain ⟨rfl, rfl⟩ := trodVars_none hV
  have k0 := h0
  have lt0 : ∀ x ∈ p0, x.block < W.heap.size := by obtain ⟨m, hm⟩ := k0; exact DataW.trod_lt m _ _ _ hm
  obtain ⟨a0, rfl, rfl, rfl, w0⟩ := open_int Try.underlying3 (hval 0 3 v0 rfl rfl) h0
  have k1 := h1
  have lt1 : ∀ x ∈ p1, x.block < W.heap.size := by obtain ⟨m, hm⟩ := k1; exact DataW.trod_lt m _ _ _ hm
  obtain ⟨a1, rfl, rfl, rfl, w1⟩ := open_int Try.underlying3 (hval 1 3 v1 rfl rfl) h1
  have k2 := h2
  have lt2 : ∀ x ∈ p2, x.block < W.heap.size := by obtain ⟨m, hm⟩ := k2; exact DataW.trod_lt m _ _ _ hm
  obtain ⟨a2, rfl, rfl, rfl, w2⟩ := open_int Try.underlying3 (hval 2 3 v2 rfl rfl) h2
  have k3 := h3
  have lt3 : ∀ x ∈ p3, x.block < W.heap.size := by obtain ⟨m, hm⟩ := k3; exact DataW.trod_lt m _ _ _ hm
  obtain ⟨sa3, sl3, sc3, rfl⟩ := okWide_slice Try.underlying22 (hval 3 22 v3 rfl rfl)
  obtain ⟨m3, hm3⟩ := h3
  obtain ⟨xa3, xl3, xc3, zs3, hv3, hl3, hI3⟩ := ints_of Try.underlying22 Try.underlying3 (by kernel_rfl) hm3
  injection hv3 with e3a e3b e3c
  subst e3a e3b e3c hl3
  clear hA0 hval0
  refine (walk W a0 w0 a1 w1 a2 w2 sa3 sc3 zs3 hI3).mono fun e W' ⟨he, bel⟩ => ?_
  subst he
  exact ⟨_, rfl, _, _, _, [], _, [], hW', trodAll_mk1 (shut_bool Try.underlying4 _), (trodAll_cons_mk (Below.trod laidOut (by kernel_rfl) (of_decide_eq_true (by kernel_rfl)) k0 bel lt0) (trodAll_cons_mk (Below.trod laidOut (by kernel_rfl) (of_decide_eq_true (by kernel_rfl)) k1 bel lt1) (trodAll_cons_mk (Below.trod laidOut (by kernel_rfl) (of_decide_eq_true (by kernel_rfl)) k2 bel lt2) (trodAll_cons_mk (Below.trod laidOut (by kernel_rfl) (of_decide_eq_true (by kernel_rfl)) k3 bel lt3) trodAll_mk0)))), rfl, bel.frame _, fun h => by cases h⟩

theorem over : Rows.familyMakesRow.holds Try.pinned (OpenSpec.ofChange Rows.familyMakesSpec) :=
  OpenClaim.holds_of_wide 3 Try.f3 rfl rfl rfl rfl rfl rfl rfl ⟨rfl, rfl, rfl, rfl, rfl⟩ rfl rfl rfl rfl rfl (by kernel_rfl) Try.func3 (by kernel_rfl)
    (of_decide_eq_true (by kernel_rfl)) (by unfold Func.isWrapper; first | (rw [if_pos (by decide +kernel)]; kernel_rfl) | (rw [if_neg (by decide +kernel)]; exact ⟨rfl, rfl⟩))
    (fun os started H enc _ => lifted os started H enc)

theorem proved : Rows.FamilyMakesSaid := over
end Go.Proofs.Ytkffpipcjdhbaaa.lawFamilyMakes
