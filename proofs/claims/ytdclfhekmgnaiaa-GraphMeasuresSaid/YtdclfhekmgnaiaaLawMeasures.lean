/- Distances, Connected, Eccentricity, Diameter and Tree answer as specified. No conditions: every input. -/
import Derived.Test.YtdclfhekmgnaiaaRefD
import Derived.Test.YtdclfhekmgnaiaaLaw1
import Derived.OpenShut
import Derived.ChangeOld
import Derived.Deep.RegionHeld3
namespace Go.Proofs.Ytdclfhekmgnaiaa.lawGraphMeasures
open Go.ChangeShapes Go.WideShapes Go.ChangeAt Go.RowKit
set_option linter.unusedVariables false

set_option maxRecDepth 100000 in
set_option maxHeartbeats 4000000 in
theorem walk (w : World) (ia : Option Addr) (il ic : Nat) (pa : Option Addr) (pl pc : Nat) (G : Gr) (hG : GraphAt w ia il pa pl G) (v : Int) (wf1 : (Lit.int .i64 v).wf = true) :
    Calls Try.prog 4 #[.agg #[.slice ia il ic, .slice pa pl pc], .int .i64 v] w fun e w' => e = .returned (.bool true) ∧ Below w.heap.size w w' := by
  clear wf1
  cases hf : lightB G with
  | false =>
    go_enter Try.func4, Try.ntmps4
    go_wp2_with (first | (go_at_call 11; refine (light_any _ _ _ _ _ _ G _ (hG.alloc _)).mono ?_; rintro e w1 ⟨rfl, hb1⟩) | (go_at_call 12; refine (awake_any _).mono ?_; rintro e w2 ⟨rfl, hb2⟩))
    go_ret
    exact ⟨rfl, (((Below.refl _ _).alloc (Nat.le_refl _) _).trans (hb1.mono (by simp))).trans (hb2.mono (Nat.le_trans (by simp) hb1.size))⟩
  | true =>
    have e1 : (connB G == connB G) = true := by simp
    have e2 : (eccF G v == eccF G v) = true := by simp
    have e3 : (diamF G == diamF G) = true := by simp
    have e4 : (treeB G == treeB G) = true := by simp
    go_enter Try.func4, Try.ntmps4
    go_wp2_with (go_at_call 11; refine (light_any _ _ _ _ _ _ G _ (hG.alloc _)).mono ?_; rintro e w1 ⟨rfl, hb1⟩; have hbx : Below (w.heap.size + 1) (w.alloc (.cells #[.slice ia il ic, .slice pa pl pc] 25)) w1 := hb1.mono (by simp); have hx0 : w1.cell? ⟨w.heap.size, 0, none⟩ = some (.slice ia il ic) := boxed hbx 0; have hx1 : w1.cell? ⟨w.heap.size, 1, none⟩ = some (.slice pa pl pc) := boxed hbx 1)
    clear hb1
    go_region_held3 (fun w' => (w'.cell? ⟨w.heap.size, 0, none⟩ = some (.slice ia il ic) ∧ w'.cell? ⟨w.heap.size, 1, none⟩ = some (.slice pa pl pc) ∧ Below (w.heap.size + 1) (w.alloc (.cells #[.slice ia il ic, .slice pa pl pc] 25)) w')) (first | exact ⟨hz210, hz211, hD21⟩ | exact ⟨hz200, hz201, hD20⟩ | exact ⟨hz190, hz191, hD19⟩ | exact ⟨hz180, hz181, hD18⟩ | exact ⟨hz170, hz171, hD17⟩ | exact ⟨hz160, hz161, hD16⟩ | exact ⟨hz150, hz151, hD15⟩ | exact ⟨hz140, hz141, hD14⟩ | exact ⟨hz130, hz131, hD13⟩ | exact ⟨hz120, hz121, hD12⟩ | exact ⟨hz110, hz111, hD11⟩ | exact ⟨hz100, hz101, hD10⟩ | exact ⟨hx0, hx1, hbx.drew⟩ | exact ⟨hx0, hx1, hbx⟩) (first | (go_at_call 12; have hHd := ‹_ ∧ _ ∧ Below (w.heap.size + 1) _ _›; (with_reducible refine (awake_any _).mono ?_); rintro e w10 ⟨rfl, hb10⟩; have hD10 : Below (w.heap.size + 1) (w.alloc (.cells #[.slice ia il ic, .slice pa pl pc] 25)) w10 := hHd.2.2.trans (hb10.mono (Nat.le_trans (by simp) hHd.2.2.size)); have hz100 : w10.cell? ⟨w.heap.size, 0, none⟩ = some (.slice ia il ic) := boxed hD10 0; have hz101 : w10.cell? ⟨w.heap.size, 1, none⟩ = some (.slice pa pl pc) := boxed hD10 1) | (go_at_call 26; have hHd := ‹_ ∧ _ ∧ Below (w.heap.size + 1) _ _›; (with_reducible refine (graphDistances_any _ _ _ _ _ _ G v _ ?_).mono ?_); exact hG.below (belBox hHd.2.2); rintro e w11 ⟨⟨da, dc, rfl, hLA⟩, hb11⟩; have hD11 : Below (w.heap.size + 1) (w.alloc (.cells #[.slice ia il ic, .slice pa pl pc] 25)) w11 := hHd.2.2.trans (hb11.mono (Nat.le_trans (by simp) hHd.2.2.size)); have hz110 : w11.cell? ⟨w.heap.size, 0, none⟩ = some (.slice ia il ic) := boxed hD11 0; have hz111 : w11.cell? ⟨w.heap.size, 1, none⟩ = some (.slice pa pl pc) := boxed hD11 1) | (go_at_call 27; have hHd := ‹_ ∧ _ ∧ Below (w.heap.size + 1) _ _›; (with_reducible refine (refDistances_any _ _ _ _ _ _ G v _ ?_).mono ?_); exact hG.below (belBox hHd.2.2); rintro e w12 ⟨⟨ea, ec, rfl, hLB⟩, hb12⟩; have hD12 : Below (w.heap.size + 1) (w.alloc (.cells #[.slice ia il ic, .slice pa pl pc] 25)) w12 := hHd.2.2.trans (hb12.mono (Nat.le_trans (by simp) hHd.2.2.size)); have hz120 : w12.cell? ⟨w.heap.size, 0, none⟩ = some (.slice ia il ic) := boxed hD12 0; have hz121 : w12.cell? ⟨w.heap.size, 1, none⟩ = some (.slice pa pl pc) := boxed hD12 1; have hLA2 := hLA.keep hb12) | (go_at_call 25; have hHd := ‹_ ∧ _ ∧ Below (w.heap.size + 1) _ _›; (with_reducible refine (sameInts_any _ _ _ _ _ _ _ hLA2 hLB (lenF_le G v)).mono ?_); rintro e w13 ⟨rfl, hb13⟩; have hD13 : Below (w.heap.size + 1) (w.alloc (.cells #[.slice ia il ic, .slice pa pl pc] 25)) w13 := hHd.2.2.trans (hb13.mono (Nat.le_trans (by simp) hHd.2.2.size)); have hz130 : w13.cell? ⟨w.heap.size, 0, none⟩ = some (.slice ia il ic) := boxed hD13 0; have hz131 : w13.cell? ⟨w.heap.size, 1, none⟩ = some (.slice pa pl pc) := boxed hD13 1) | (go_at_call 28; have hHd := ‹_ ∧ _ ∧ Below (w.heap.size + 1) _ _›; (with_reducible refine (connected_any _ _ _ _ _ _ G _ ?_).mono ?_); exact hG.below (belBox hHd.2.2); rintro e w14 ⟨rfl, hb14⟩; have hD14 : Below (w.heap.size + 1) (w.alloc (.cells #[.slice ia il ic, .slice pa pl pc] 25)) w14 := hHd.2.2.trans (hb14.mono (Nat.le_trans (by simp) hHd.2.2.size)); have hz140 : w14.cell? ⟨w.heap.size, 0, none⟩ = some (.slice ia il ic) := boxed hD14 0; have hz141 : w14.cell? ⟨w.heap.size, 1, none⟩ = some (.slice pa pl pc) := boxed hD14 1) | (go_at_call 29; have hHd := ‹_ ∧ _ ∧ Below (w.heap.size + 1) _ _›; (with_reducible refine (refConnected_any _ _ _ _ _ _ G _ ?_).mono ?_); exact hG.below (belBox hHd.2.2); rintro e w15 ⟨rfl, hb15⟩; have hD15 : Below (w.heap.size + 1) (w.alloc (.cells #[.slice ia il ic, .slice pa pl pc] 25)) w15 := hHd.2.2.trans (hb15.mono (Nat.le_trans (by simp) hHd.2.2.size)); have hz150 : w15.cell? ⟨w.heap.size, 0, none⟩ = some (.slice ia il ic) := boxed hD15 0; have hz151 : w15.cell? ⟨w.heap.size, 1, none⟩ = some (.slice pa pl pc) := boxed hD15 1) | (go_at_call 30; have hHd := ‹_ ∧ _ ∧ Below (w.heap.size + 1) _ _›; (with_reducible refine (ecc_any _ _ _ _ _ _ G v _ ?_).mono ?_); exact hG.below (belBox hHd.2.2); rintro e w16 ⟨rfl, hb16⟩; have hD16 : Below (w.heap.size + 1) (w.alloc (.cells #[.slice ia il ic, .slice pa pl pc] 25)) w16 := hHd.2.2.trans (hb16.mono (Nat.le_trans (by simp) hHd.2.2.size)); have hz160 : w16.cell? ⟨w.heap.size, 0, none⟩ = some (.slice ia il ic) := boxed hD16 0; have hz161 : w16.cell? ⟨w.heap.size, 1, none⟩ = some (.slice pa pl pc) := boxed hD16 1) | (go_at_call 31; have hHd := ‹_ ∧ _ ∧ Below (w.heap.size + 1) _ _›; (with_reducible refine (refEcc_any _ _ _ _ _ _ G v _ ?_).mono ?_); exact hG.below (belBox hHd.2.2); rintro e w17 ⟨rfl, hb17⟩; have hD17 : Below (w.heap.size + 1) (w.alloc (.cells #[.slice ia il ic, .slice pa pl pc] 25)) w17 := hHd.2.2.trans (hb17.mono (Nat.le_trans (by simp) hHd.2.2.size)); have hz170 : w17.cell? ⟨w.heap.size, 0, none⟩ = some (.slice ia il ic) := boxed hD17 0; have hz171 : w17.cell? ⟨w.heap.size, 1, none⟩ = some (.slice pa pl pc) := boxed hD17 1) | (go_at_call 32; have hHd := ‹_ ∧ _ ∧ Below (w.heap.size + 1) _ _›; (with_reducible refine (diameter_any _ _ _ _ _ _ G _ ?_).mono ?_); exact hG.below (belBox hHd.2.2); rintro e w18 ⟨rfl, hb18⟩; have hD18 : Below (w.heap.size + 1) (w.alloc (.cells #[.slice ia il ic, .slice pa pl pc] 25)) w18 := hHd.2.2.trans (hb18.mono (Nat.le_trans (by simp) hHd.2.2.size)); have hz180 : w18.cell? ⟨w.heap.size, 0, none⟩ = some (.slice ia il ic) := boxed hD18 0; have hz181 : w18.cell? ⟨w.heap.size, 1, none⟩ = some (.slice pa pl pc) := boxed hD18 1) | (go_at_call 33; have hHd := ‹_ ∧ _ ∧ Below (w.heap.size + 1) _ _›; (with_reducible refine (refDiameter_any _ _ _ _ _ _ G _ ?_).mono ?_); exact hG.below (belBox hHd.2.2); rintro e w19 ⟨rfl, hb19⟩; have hD19 : Below (w.heap.size + 1) (w.alloc (.cells #[.slice ia il ic, .slice pa pl pc] 25)) w19 := hHd.2.2.trans (hb19.mono (Nat.le_trans (by simp) hHd.2.2.size)); have hz190 : w19.cell? ⟨w.heap.size, 0, none⟩ = some (.slice ia il ic) := boxed hD19 0; have hz191 : w19.cell? ⟨w.heap.size, 1, none⟩ = some (.slice pa pl pc) := boxed hD19 1) | (go_at_call 34; have hHd := ‹_ ∧ _ ∧ Below (w.heap.size + 1) _ _›; (with_reducible refine (tree_any _ _ _ _ _ _ G _ ?_).mono ?_); exact hG.below (belBox hHd.2.2); rintro e w20 ⟨rfl, hb20⟩; have hD20 : Below (w.heap.size + 1) (w.alloc (.cells #[.slice ia il ic, .slice pa pl pc] 25)) w20 := hHd.2.2.trans (hb20.mono (Nat.le_trans (by simp) hHd.2.2.size)); have hz200 : w20.cell? ⟨w.heap.size, 0, none⟩ = some (.slice ia il ic) := boxed hD20 0; have hz201 : w20.cell? ⟨w.heap.size, 1, none⟩ = some (.slice pa pl pc) := boxed hD20 1) | (go_at_call 35; have hHd := ‹_ ∧ _ ∧ Below (w.heap.size + 1) _ _›; (with_reducible refine (refTree_any _ _ _ _ _ _ G _ ?_).mono ?_); exact hG.below (belBox hHd.2.2); rintro e w21 ⟨rfl, hb21⟩; have hD21 : Below (w.heap.size + 1) (w.alloc (.cells #[.slice ia il ic, .slice pa pl pc] 25)) w21 := hHd.2.2.trans (hb21.mono (Nat.le_trans (by simp) hHd.2.2.size)); have hz210 : w21.cell? ⟨w.heap.size, 0, none⟩ = some (.slice ia il ic) := boxed hD21 0; have hz211 : w21.cell? ⟨w.heap.size, 1, none⟩ = some (.slice pa pl pc) := boxed hD21 1))
    go_wp2_with fail
    go_ret
    exact ⟨rfl, belBox hD21⟩

set_option maxRecDepth 100000 in
theorem lifted (os : Os) (started : os.Started) (H : Type) (enc : TypeId × Value → H) :
    ReturnsInHanded {} Try.checked os 4 .any (Rows.graphMeasuresSpec.pre6 enc Try.prog Try.f4 Rows.graphMeasuresRow.domain false) (Rows.graphMeasuresSpec.post enc Try.prog Try.f4 false true false false) := by
  refine returnsInHanded_of_change (C := Try.checked) own started (by kernel_rfl) Try.func4
    (ChangeSpec.witness6 (enc := enc) (C := Try.checked) false ⟨#[], #[.agg #[.slice none 0 0, .slice none 0 0], .int .i64 0], []⟩ 8 (by kernel_rfl) (by kernel_rfl) (by kernel_rfl) (by kernel_rfl)) ?_
  intro W base args ds gs before hval0 hW hcnd _
  have hval : ∀ (j : Nat) t v, Try.f4.params[j]? = some t → args[j]? = some v → Value.okWide Try.prog W .any base t v := hval0
  have hW' := hW
  obtain ⟨p, q, hA0, hV, rfl, hfz, hnd⟩ := hW
  have hA : DataW.TrodAll enc Try.prog W 0 (fun _ => true) true Try.f4.params.toList args.toList ds p := hA0
  rw [Try.params4] at hA hval
  obtain ⟨v0, vs0, d0, ds0, p0, q0, hargs, rfl, rfl, h0, r0⟩ := trodAll_cons hA
  obtain ⟨v1, vs1, d1, ds1, p1, q1, rfl, rfl, rfl, h1, r1⟩ := trodAll_cons r0
  obtain ⟨rfl, rfl, rfl⟩ := trodAll_nil r1
  obtain rfl : args = #[v0, v1] := by cases args; simp_all
  obtain ⟨rfl, rfl⟩ := trodVars_none hV
  have k0 := h0
  have lt0 : ∀ x ∈ p0, x.block < W.heap.size := by obtain ⟨m, hm⟩ := k0; exact DataW.trod_lt m _ _ _ hm
  obtain ⟨ia0, il0, ic0, pa0, pl0, pc0, G0, rfl, hG0⟩ := open_graph (hval 0 25 v0 rfl rfl) h0
  have k1 := h1
  have lt1 : ∀ x ∈ p1, x.block < W.heap.size := by obtain ⟨m, hm⟩ := k1; exact DataW.trod_lt m _ _ _ hm
  obtain ⟨a1, rfl, rfl, rfl, w1⟩ := open_int Try.underlying3 (hval 1 3 v1 rfl rfl) h1
  clear hA0 hval0
  refine (walk W ia0 il0 ic0 pa0 pl0 pc0 G0 hG0 a1 w1).mono fun e W' ⟨he, bel⟩ => ?_
  subst he
  exact ⟨_, rfl, _, _, _, [], _, [], hW', trodAll_mk1 (shut_bool Try.underlying4 _), (trodAll_cons_mk (Below.trod laidOut (by kernel_rfl) (of_decide_eq_true (by kernel_rfl)) k0 bel lt0) (trodAll_cons_mk (Below.trod laidOut (by kernel_rfl) (of_decide_eq_true (by kernel_rfl)) k1 bel lt1) trodAll_mk0)), rfl, bel.frame _, fun h => by cases h⟩

theorem over : Rows.graphMeasuresRow.holds Try.pinned (OpenSpec.ofChange Rows.graphMeasuresSpec) :=
  OpenClaim.holds_of_wide 4 Try.f4 rfl rfl rfl rfl rfl rfl rfl ⟨rfl, rfl, rfl, rfl, rfl⟩ rfl rfl rfl rfl rfl (by kernel_rfl) Try.func4 (by kernel_rfl)
    (of_decide_eq_true (by kernel_rfl)) (by unfold Func.isWrapper; first | (rw [if_pos (by decide +kernel)]; kernel_rfl) | (rw [if_neg (by decide +kernel)]; exact ⟨rfl, rfl⟩))
    (fun os started H enc _ => lifted os started H enc)

theorem proved : Rows.GraphMeasuresSaid := over
end Go.Proofs.Ytdclfhekmgnaiaa.lawGraphMeasures
