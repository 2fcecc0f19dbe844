/- Relabel and Identify return the specified graphs and errors. No conditions: every input. -/
import Derived.Test.YtfbbkiibhdgojaaLaw3
import Derived.Test.YtfbbkiibhdgojaaRefF15
import Derived.Test.YtfbbkiibhdgojaaRefF9
import Derived.Test.YtfbbkiibhdgojaaFamMov
import Derived.Test.YtfbbkiibhdgojaaFamIdent
import Derived.OpenShut
import Derived.ChangeOld
import Derived.Deep.RegionHeld3
namespace Go.Proofs.Ytfbbkiibhdgojaa.lawFamilyRenames
open Go.ChangeShapes Go.WideShapes Go.ChangeAt Go.RowKit Go.Deep Go.Joins
set_option linter.unusedVariables false

/-- the struct at A holds a graph -/
structure BoxG (w : World) (A : Nat) (a1 : Option Addr) (l1 c1 : Nat) (a2 : Option Addr) (l2 c2 : Nat) (G : Gr) : Prop where
  c0 : w.cell? ⟨A, 0, none⟩ = some (.slice a1 l1 c1)
  c1 : w.cell? ⟨A, 1, none⟩ = some (.slice a2 l2 c2)
  g : GraphAt w a1 l1 a2 l2 G
theorem BoxG.below {w w' : World} {A : Nat} {a1 : Option Addr} {l1 c1 : Nat} {a2 : Option Addr} {l2 c2 : Nat} {G : Gr} (h : BoxG w A a1 l1 c1 a2 l2 c2 G) (hb : Below w.heap.size w w') : BoxG w' A a1 l1 c1 a2 l2 c2 G :=
  ⟨(hb.cell (p := ⟨A, 0, none⟩) (cell_lt h.c0)).trans h.c0, (hb.cell (p := ⟨A, 1, none⟩) (cell_lt h.c1)).trans h.c1, h.g.below hb⟩
theorem BoxG.make {w : World} {a1 : Option Addr} {l1 c1 : Nat} {a2 : Option Addr} {l2 c2 : Nat} {G : Gr} {t : TypeId} (h : GraphAt w a1 l1 a2 l2 G) : BoxG (w.alloc (.cells #[.slice a1 l1 c1, .slice a2 l2 c2] t)) w.heap.size a1 l1 c1 a2 l2 c2 G :=
  ⟨by simp [cell_push0], by simp [cell_push0], h.alloc _⟩
theorem below_alloc (w : World) (o : Obj) : Below w.heap.size w (w.alloc o) := (Below.refl _ _).alloc (Nat.le_refl _) o

set_option maxRecDepth 100000 in
set_option maxHeartbeats 1000000 in
theorem walk (w : World) (ia : Option Addr) (il ic : Nat) (pa : Option Addr) (pl pc : Nat) (G : Gr) (hG : GraphAt w ia il pa pl G) (sa1 : Option Addr) (sc1 : Nat) (zs1 : List Int) (hI1 : IntsAt w sa1 zs1) (sa2 : Option Addr) (sc2 : Nat) (zs2 : List Int) (hI2 : IntsAt w sa2 zs2) :
    Calls Try.prog 3 #[.agg #[.slice ia il ic, .slice pa pl pc], .slice sa1 zs1.length sc1, .slice sa2 zs2.length sc2] w fun e w' => e = .returned (.bool true) ∧ Below w.heap.size w w' := by
  have hz1 := hI1.size
  have hz2 := hI2.size
  unfold maxLen at hz1 hz2
  have hB0 := BoxG.make (c1 := ic) (c2 := pc) (t := 25) hG
  have HB0 := Lib.hid hB0
  have hT0 := below_alloc w (.cells #[.slice ia il ic, .slice pa pl pc] 25)
  have HT0 := Lib.hid hT0
  have C1 : Hid (∀ W : World, Below w.heap.size w W → GraphAt W ia il pa pl G → Calls Try.prog 7 #[.agg #[.slice ia il ic, .slice pa pl pc], .slice sa1 zs1.length sc1] W fun e w' => FamOwn W.heap.size (movO G zs1) e w' ∧ Below W.heap.size W w') := Lib.hid (fun W hb hg => relabelP_any _ _ _ _ _ _ G _ _ zs1 _ hg (hI1.below hb))
  have C2 : Hid (∀ W : World, Below w.heap.size w W → GraphAt W ia il pa pl G → Calls Try.prog 8 #[.agg #[.slice ia il ic, .slice pa pl pc], .slice sa1 zs1.length sc1] W fun e w' => FamSays (movO G zs1) e w' ∧ Below W.heap.size W w') := Lib.hid (fun W hb hg => relabelR_any _ _ _ _ _ _ G _ _ zs1 _ hg (hI1.below hb))
  have C3 : Hid (zs2.length ≤ 40 → ∀ W : World, Below w.heap.size w W → GraphAt W ia il pa pl G → Calls Try.prog 9 #[.agg #[.slice ia il ic, .slice pa pl pc], .slice sa2 zs2.length sc2] W fun e w' => FamOwn W.heap.size (identO G zs2) e w' ∧ Below W.heap.size W w') := Lib.hid (fun hl W hb hg => identP_any _ _ _ _ _ _ G _ _ zs2 _ rfl _ hg (hI2.below hb) (by omega))
  have C4 : Hid (zs2.length ≤ 40 → ∀ W : World, Below w.heap.size w W → GraphAt W ia il pa pl G → Calls Try.prog 10 #[.agg #[.slice ia il ic, .slice pa pl pc], .slice sa2 zs2.length sc2] W fun e w' => FamSays (identO G zs2) e w' ∧ Below W.heap.size W w') := Lib.hid (fun hl W hb hg => identify_any _ _ _ _ _ _ G _ _ zs2 _ hg (hI2.below hb) (by omega))
  clear hG hB0 hT0 hI1 hI2
  generalize zs1.length = m1 at *
  generalize zs2.length = m2 at *
  by_cases hok : lightB G = true ∧ m1 ≤ 40 ∧ m2 ≤ 40
  case neg =>
    cases hl : lightB G with
    | false =>
      go_enter Try.func3, Try.ntmps3
      go_wp2_with fail
      refine (light_any _ _ _ _ _ _ G _ HB0.out.g).mono ?_
      rintro e w1 ⟨rfl, hb1⟩
      rw [hl]
      go_wp2_with fail
      refine (awake_any _).mono ?_
      rintro e w2 ⟨rfl, hb2⟩
      go_wp2_with fail
      go_ret
      have hT := HT0.out.trans (hb1.mono HT0.out.size)
      exact ⟨rfl, hT.trans (hb2.mono hT.size)⟩
    | true =>
      by_cases h1 : 40 < m1
      · go_enter Try.func3, Try.ntmps3
        go_wp2_with fail
        refine (light_any _ _ _ _ _ _ G _ HB0.out.g).mono ?_
        rintro e w1 ⟨rfl, hb1⟩
        rw [hl]
        clear hok
        go_wp2_with fail
        refine (awake_any _).mono ?_
        rintro e w2 ⟨rfl, hb2⟩
        go_wp2_with fail
        go_ret
        have hT := HT0.out.trans (hb1.mono HT0.out.size)
        exact ⟨rfl, hT.trans (hb2.mono hT.size)⟩
      · have h2 : 40 < m2 := by
          by_cases h3 : 40 < m2
          · exact h3
          · exact absurd ⟨hl, by omega, by omega⟩ hok
        clear hok
        go_enter Try.func3, Try.ntmps3
        go_wp2_with fail
        refine (light_any _ _ _ _ _ _ G _ HB0.out.g).mono ?_
        rintro e w1 ⟨rfl, hb1⟩
        rw [hl]
        go_wp2_with fail
        refine (awake_any _).mono ?_
        rintro e w2 ⟨rfl, hb2⟩
        go_wp2_with fail
        go_ret
        have hT := HT0.out.trans (hb1.mono HT0.out.size)
        exact ⟨rfl, hT.trans (hb2.mono hT.size)⟩
  obtain ⟨hl, hm1, hm2⟩ := hok
  obtain ⟨o1, ho1⟩ : ∃ o, o = movO G zs1 := ⟨_, rfl⟩
  obtain ⟨o2, ho2⟩ : ∃ o, o = identO G zs2 := ⟨_, rfl⟩
  obtain ⟨k1, hk1⟩ : ∃ k, k = erO o1 := ⟨_, rfl⟩
  obtain ⟨k2, hk2⟩ : ∃ k, k = erO o2 := ⟨_, rfl⟩
  have Ho1 := Lib.hid ho1
  have Ho2 := Lib.hid ho2
  have Hk1 := Lib.hid hk1
  have Hk2 := Lib.hid hk2
  have D3 := Lib.hid (C3.out hm2)
  have D4 := Lib.hid (C4.out hm2)
  clear ho1 ho2 hk1 hk2 C3 C4
  go_enter Try.func3, Try.ntmps3
  go_wp2_with fail
  refine (light_any _ _ _ _ _ _ G _ HB0.out.g).mono ?_
  rintro e w1 ⟨rfl, hb1⟩
  rw [hl]
  have hB1 := HB0.out.below hb1
  have hT := HT0.out.trans (hb1.mono HT0.out.size)
  have z0 := hB1.c0
  have z1 := hB1.c1
  clear hb1
  go_wp2_with fail
  refine (C1.out _ hT hB1.g).mono ?_
  rintro e v1 ⟨hF, hb⟩
  obtain ⟨p1, l1, c1, q1, r1, d1, rfl, hGH⟩ := hF.says.graph
  rw [← Ho1.out, ← Hk1.out]
  rw [← Ho1.out] at hGH
  unfold famRet
  replace hB1 := hB1.below hb
  replace hT := hT.trans (hb.mono hT.size)
  clear hb hF
  obtain ⟨u1, hu1⟩ : ∃ u, u = v1.alloc (.cells #[.slice p1 l1 c1, .slice q1 r1 d1] 25) := ⟨_, rfl⟩
  have hX1 := BoxG.make (c1 := c1) (c2 := d1) (t := 25) hGH
  have hbA := below_alloc v1 (.cells #[.slice p1 l1 c1, .slice q1 r1 d1] 25)
  replace hB1 := hB1.below hbA
  replace hT := hT.trans (hbA.mono hT.size)
  have z0 := hB1.c0
  have z1 := hB1.c1
  clear hbA hGH
  go_wp2_with fail
  rw [← hu1] at hB1 hT hX1  ⊢
  clear hu1 z0 z1
  refine (C2.out _ hT hB1.g).mono ?_
  rintro e v2 ⟨hF, hb⟩
  obtain ⟨p2, l2, c2, q2, r2, d2, rfl, hGH⟩ := hF.graph
  rw [← Ho1.out, ← Hk1.out]
  rw [← Ho1.out] at hGH
  unfold famRet
  replace hB1 := hB1.below hb
  replace hT := hT.trans (hb.mono hT.size)
  replace hX1 := hX1.below hb
  clear hb hF
  obtain ⟨u2, hu2⟩ : ∃ u, u = v2.alloc (.cells #[.slice p2 l2 c2, .slice q2 r2 d2] 25) := ⟨_, rfl⟩
  have hX2 := BoxG.make (c1 := c2) (c2 := d2) (t := 25) hGH
  have hbA := below_alloc v2 (.cells #[.slice p2 l2 c2, .slice q2 r2 d2] 25)
  replace hB1 := hB1.below hbA
  replace hT := hT.trans (hbA.mono hT.size)
  replace hX1 := hX1.below hbA
  have z0 := hB1.c0
  have z1 := hB1.c1
  clear hbA hGH
  go_wp2_with fail
  rw [← hu2] at hB1 hT hX2 hX1 ⊢
  clear hu2 z0 z1
  refine (D3.out _ hT hB1.g).mono ?_
  rintro e v3 ⟨hF, hb⟩
  obtain ⟨p3, l3, c3, q3, r3, d3, rfl, hGH⟩ := hF.says.graph
  rw [← Ho2.out, ← Hk2.out]
  rw [← Ho2.out] at hGH
  unfold famRet
  replace hB1 := hB1.below hb
  replace hT := hT.trans (hb.mono hT.size)
  replace hX1 := hX1.below hb
  replace hX2 := hX2.below hb
  clear hb hF
  obtain ⟨u3, hu3⟩ : ∃ u, u = v3.alloc (.cells #[.slice p3 l3 c3, .slice q3 r3 d3] 25) := ⟨_, rfl⟩
  have hX3 := BoxG.make (c1 := c3) (c2 := d3) (t := 25) hGH
  have hbA := below_alloc v3 (.cells #[.slice p3 l3 c3, .slice q3 r3 d3] 25)
  replace hB1 := hB1.below hbA
  replace hT := hT.trans (hbA.mono hT.size)
  replace hX1 := hX1.below hbA
  replace hX2 := hX2.below hbA
  have z0 := hB1.c0
  have z1 := hB1.c1
  clear hbA hGH
  go_wp2_with fail
  rw [← hu3] at hB1 hT hX3 hX1 hX2 ⊢
  clear hu3 z0 z1
  refine (D4.out _ hT hB1.g).mono ?_
  rintro e v4 ⟨hF, hb⟩
  obtain ⟨p4, l4, c4, q4, r4, d4, rfl, hGH⟩ := hF.graph
  rw [← Ho2.out, ← Hk2.out]
  rw [← Ho2.out] at hGH
  unfold famRet
  replace hB1 := hB1.below hb
  replace hT := hT.trans (hb.mono hT.size)
  replace hX1 := hX1.below hb
  replace hX2 := hX2.below hb
  replace hX3 := hX3.below hb
  clear hb hF
  obtain ⟨u4, hu4⟩ : ∃ u, u = v4.alloc (.cells #[.slice p4 l4 c4, .slice q4 r4 d4] 25) := ⟨_, rfl⟩
  have hX4 := BoxG.make (c1 := c4) (c2 := d4) (t := 25) hGH
  have hbA := below_alloc v4 (.cells #[.slice p4 l4 c4, .slice q4 r4 d4] 25)
  replace hB1 := hB1.below hbA
  replace hT := hT.trans (hbA.mono hT.size)
  replace hX1 := hX1.below hbA
  replace hX2 := hX2.below hbA
  replace hX3 := hX3.below hbA
  have z0 := hB1.c0
  have z1 := hB1.c1
  clear hbA hGH
  go_wp2_with fail
  rw [← hu4] at hB1 hT hX4 hX1 hX2 hX3 ⊢
  clear hu4 z0 z1
  refine (awake_any _).mono ?_
  rintro e w5 ⟨rfl, hb⟩
  replace hB1 := hB1.below hb
  replace hT := hT.trans (hb.mono hT.size)
  replace hX1 := hX1.below hb
  replace hX2 := hX2.below hb
  replace hX3 := hX3.below hb
  replace hX4 := hX4.below hb
  clear hb
  have y1 := hX1.c0
  have y2 := hX2.c0
  have y3 := hX3.c0
  have y4 := hX4.c0
  have x1 := hX1.c1
  have x2 := hX2.c1
  have x3 := hX3.c1
  have x4 := hX4.c1
  go_wp2_with fail
  clear y1 y2 y3 y4 x1 x2 x3 x4
  refine (same_any _ _ _ _ _ _ _ _ _ _ _ _ _ _ _ hX1.g hX2.g).mono ?_
  rintro e w6 ⟨rfl, hb⟩
  rw [sameB_mk rfl rfl]
  replace hB1 := hB1.below hb
  replace hT := hT.trans (hb.mono hT.size)
  replace hX1 := hX1.below hb
  replace hX2 := hX2.below hb
  replace hX3 := hX3.below hb
  replace hX4 := hX4.below hb
  clear hb
  have y1 := hX1.c0
  have y2 := hX2.c0
  have y3 := hX3.c0
  have y4 := hX4.c0
  have x1 := hX1.c1
  have x2 := hX2.c1
  have x3 := hX3.c1
  have x4 := hX4.c1
  go_wp2_with fail
  clear y1 y2 y3 y4 x1 x2 x3 x4
  refine (same_any _ _ _ _ _ _ _ _ _ _ _ _ _ _ _ hX3.g hX4.g).mono ?_
  rintro e w7 ⟨rfl, hb⟩
  rw [sameB_mk rfl rfl]
  replace hB1 := hB1.below hb
  replace hT := hT.trans (hb.mono hT.size)
  replace hX1 := hX1.below hb
  replace hX2 := hX2.below hb
  replace hX3 := hX3.below hb
  replace hX4 := hX4.below hb
  clear hb
  have y1 := hX1.c0
  have y2 := hX2.c0
  have y3 := hX3.c0
  have y4 := hX4.c0
  have x1 := hX1.c1
  have x2 := hX2.c1
  have x3 := hX3.c1
  have x4 := hX4.c1
  go_wp2_with fail
  go_ret
  exact ⟨rfl, hT⟩

set_option maxRecDepth 100000 in
theorem lifted (os : Os) (started : os.Started) (H : Type) (enc : TypeId × Value → H) :
    ReturnsInHanded {} Try.checked os 3 .any (Rows.familyRenamesSpec.pre6 enc Try.prog Try.f3 Rows.familyRenamesRow.domain false) (Rows.familyRenamesSpec.post enc Try.prog Try.f3 false true false false) := by
  refine returnsInHanded_of_change (C := Try.checked) own started (by kernel_rfl) Try.func3
    (ChangeSpec.witness6 (enc := enc) (C := Try.checked) false ⟨#[], #[.agg #[.slice none 0 0, .slice none 0 0], .slice none 0 0, .slice none 0 0], []⟩ 8 (by kernel_rfl) (by kernel_rfl) (by kernel_rfl) (by kernel_rfl)) ?_
  intro W base args ds gs before hval0 hW hcnd _
  have hval : ∀ (j : Nat) t v, Try.f3.params[j]? = some t → args[j]? = some v → Value.okWide Try.prog W .any base t v := hval0
  have hW' := hW
  obtain ⟨p, q, hA0, hV, rfl, hfz, hnd⟩ := hW
  have hA : DataW.TrodAll enc Try.prog W 0 (fun _ => true) true Try.f3.params.toList args.toList ds p := hA0
  rw [Try.params3] at hA hval
  obtain ⟨v0, vs0, d0, ds0, p0, q0, hargs, rfl, rfl, h0, r0⟩ := trodAll_cons hA
  obtain ⟨v1, vs1, d1, ds1, p1, q1, rfl, rfl, rfl, h1, r1⟩ := trodAll_cons r0
  obtain ⟨v2, vs2, d2, ds2, p2, q2, rfl, rfl, rfl, h2, r2⟩ := trodAll_cons r1
  obtain ⟨rfl, rfl, rfl⟩ := trodAll_nil r2
  obtain rfl : args = #[v0, v1, v2] := by cases args; simp_all
  obtain ⟨rfl, rfl⟩ := trodVars_none hV
  have k0 := h0
  have lt0 : ∀ x ∈ p0, x.block < W.heap.size := by obtain ⟨m, hm⟩ := k0; exact DataW.trod_lt m _ _ _ hm
  obtain ⟨ia0, il0, ic0, pa0, pl0, pc0, G0, rfl, hG0⟩ := open_graph (hval 0 25 v0 rfl rfl) h0
  have k1 := h1
  have lt1 : ∀ x ∈ p1, x.block < W.heap.size := by obtain ⟨m, hm⟩ := k1; exact DataW.trod_lt m _ _ _ hm
  obtain ⟨sa1, sl1, sc1, rfl⟩ := okWide_slice Try.underlying22 (hval 1 22 v1 rfl rfl)
  obtain ⟨m1, hm1⟩ := h1
  obtain ⟨xa1, xl1, xc1, zs1, hv1, hl1, hI1⟩ := ints_of Try.underlying22 Try.underlying3 (by kernel_rfl) hm1
  injection hv1 with e1a e1b e1c
  subst e1a e1b e1c hl1
  have k2 := h2
  have lt2 : ∀ x ∈ p2, x.block < W.heap.size := by obtain ⟨m, hm⟩ := k2; exact DataW.trod_lt m _ _ _ hm
  obtain ⟨sa2, sl2, sc2, rfl⟩ := okWide_slice Try.underlying22 (hval 2 22 v2 rfl rfl)
  obtain ⟨m2, hm2⟩ := h2
  obtain ⟨xa2, xl2, xc2, zs2, hv2, hl2, hI2⟩ := ints_of Try.underlying22 Try.underlying3 (by kernel_rfl) hm2
  injection hv2 with e2a e2b e2c
  subst e2a e2b e2c hl2
  clear hA0 hval0
  refine (walk W ia0 il0 ic0 pa0 pl0 pc0 G0 hG0 sa1 sc1 zs1 hI1 sa2 sc2 zs2 hI2).mono fun e W' ⟨he, bel⟩ => ?_
  subst he
  exact ⟨_, rfl, _, _, _, [], _, [], hW', trodAll_mk1 (shut_bool Try.underlying4 _), (trodAll_cons_mk (Below.trod laidOut (by kernel_rfl) (of_decide_eq_true (by kernel_rfl)) k0 bel lt0) (trodAll_cons_mk (Below.trod laidOut (by kernel_rfl) (of_decide_eq_true (by kernel_rfl)) k1 bel lt1) (trodAll_cons_mk (Below.trod laidOut (by kernel_rfl) (of_decide_eq_true (by kernel_rfl)) k2 bel lt2) trodAll_mk0))), rfl, bel.frame _, fun h => by cases h⟩

theorem over : Rows.familyRenamesRow.holds Try.pinned (OpenSpec.ofChange Rows.familyRenamesSpec) :=
  OpenClaim.holds_of_wide 3 Try.f3 rfl rfl rfl rfl rfl rfl rfl ⟨rfl, rfl, rfl, rfl, rfl⟩ rfl rfl rfl rfl rfl (by kernel_rfl) Try.func3 (by kernel_rfl)
    (of_decide_eq_true (by kernel_rfl)) (by unfold Func.isWrapper; first | (rw [if_pos (by decide +kernel)]; kernel_rfl) | (rw [if_neg (by decide +kernel)]; exact ⟨rfl, rfl⟩))
    (fun os started H enc _ => lifted os started H enc)

theorem proved : Rows.FamilyRenamesSaid := over
end Go.Proofs.Ytfbbkiibhdgojaa.lawFamilyRenames
