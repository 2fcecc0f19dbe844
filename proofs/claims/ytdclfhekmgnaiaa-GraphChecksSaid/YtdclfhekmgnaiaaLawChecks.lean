/- Valid, Size, Degree, Back, Neighbours and Independent answer as specified. No conditions: every input. -/
import Derived.Test.YtdclfhekmgnaiaaRefB
import Derived.Test.YtdclfhekmgnaiaaLaw1
import Derived.OpenShut
import Derived.ChangeOld
import Derived.Deep.RegionHeld3
namespace Go.Proofs.Ytdclfhekmgnaiaa.lawGraphChecks
open Go.ChangeShapes Go.WideShapes Go.ChangeAt Go.RowKit
set_option linter.unusedVariables false

theorem wf_U32 {z : Int} (h : (Lit.int .u32 z).wf = true) : ∃ s : Nat, z = s ∧ s < 4294967296 := by
  have h2 : 0 ≤ z ∧ z ≤ 4294967295 := by simpa [Lit.wf, IntKind.min, IntKind.max, IntKind.bits, IntKind.signed] using h
  exact ⟨z.toNat, by omega, by omega⟩

set_option maxRecDepth 100000 in
set_option maxHeartbeats 4000000 in
theorem walk (w : World) (ia : Option Addr) (il ic : Nat) (pa : Option Addr) (pl pc : Nat) (G : Gr) (hG : GraphAt w ia il pa pl G) (v : Int) (wf1 : (Lit.int .i64 v).wf = true) (p : Int) (wf2 : (Lit.int .i64 p).wf = true) (a3 : Int) (wf3 : (Lit.int .u32 a3).wf = true) :
    Calls Try.prog 3 #[.agg #[.slice ia il ic, .slice pa pl pc], .int .i64 v, .int .i64 p, .int .u32 a3] w fun e w' => e = .returned (.bool true) ∧ Below w.heap.size w w' := by
  obtain ⟨set, rfl, hset⟩ := wf_U32 wf3
  clear wf1 wf2 wf3
  cases hf : lightB G with
  | false =>
    go_enter Try.func3, Try.ntmps3
    go_wp2_with (first | (go_at_call 11; refine (light_any _ _ _ _ _ _ G _ (hG.alloc _)).mono ?_; rintro e w1 ⟨rfl, hb1⟩) | (go_at_call 12; refine (awake_any _).mono ?_; rintro e w2 ⟨rfl, hb2⟩))
    go_ret
    exact ⟨rfl, (((Below.refl _ _).alloc (Nat.le_refl _) _).trans (hb1.mono (by simp))).trans (hb2.mono (Nat.le_trans (by simp) hb1.size))⟩
  | true =>
    have e1 : (validB G == validB G) = true := by simp
    have e2 : (nodesF G == nodesF G) = true := by simp
    have e3 : (linksF G == linksF G) = true := by simp
    have e4 : (degF G v == degF G v) = true := by simp
    have e5 : (backF G v p == backF G v p) = true := by simp
    have e6 : ((nbF G set : Int) == (nbF G set : Int)) = true := by simp
    have e7 : (indB G set == indB G set) = true := by simp
    go_enter Try.func3, Try.ntmps3
    go_wp2_with (first | (go_at_call 11; refine (light_any _ _ _ _ _ _ G _ (hG.alloc _)).mono ?_; rintro e w1 ⟨rfl, hb1⟩; have hbx : Below (w.heap.size + 1) (w.alloc (.cells #[.slice ia il ic, .slice pa pl pc] 25)) w1 := hb1.mono (by simp); have hx0 : w1.cell? ⟨w.heap.size, 0, none⟩ = some (.slice ia il ic) := boxed hbx 0; have hx1 : w1.cell? ⟨w.heap.size, 1, none⟩ = some (.slice pa pl pc) := boxed hbx 1) | (go_at_call 13; refine (size_any _ _ _ _ _ _ G _ (hG.below (belBox hbx))).mono ?_; rintro e w2 ⟨rfl, hb2⟩; have hbx1 := hbx.trans (hb2.mono (Nat.le_trans (by simp) hbx.size)); have hx10 : w2.cell? ⟨w.heap.size, 0, none⟩ = some (.slice ia il ic) := boxed hbx1 0; have hx11 : w2.cell? ⟨w.heap.size, 1, none⟩ = some (.slice pa pl pc) := boxed hbx1 1) | (go_at_call 14; refine (refSize_any _ _ _ _ _ _ G _ (hG.below (belBox hbx1))).mono ?_; rintro e w3 ⟨rfl, hb3⟩; have hbx2 := hbx1.trans (hb3.mono (Nat.le_trans (by simp) hbx1.size)); have hx20 : w3.cell? ⟨w.heap.size, 0, none⟩ = some (.slice ia il ic) := boxed hbx2 0; have hx21 : w3.cell? ⟨w.heap.size, 1, none⟩ = some (.slice pa pl pc) := boxed hbx2 1))
    clear hbx hbx1 hx0 hx1 hx10 hx11 hb1 hb2 hb3
    go_region_held3 (fun w' => (w'.cell? ⟨w.heap.size, 0, none⟩ = some (.slice ia il ic) ∧ w'.cell? ⟨w.heap.size, 1, none⟩ = some (.slice pa pl pc) ∧ Below (w.heap.size + 1) (w.alloc (.cells #[.slice ia il ic, .slice pa pl pc] 25)) w')) (first | exact ⟨hz200, hz201, hD20⟩ | exact ⟨hz190, hz191, hD19⟩ | exact ⟨hz180, hz181, hD18⟩ | exact ⟨hz170, hz171, hD17⟩ | exact ⟨hz160, hz161, hD16⟩ | exact ⟨hz150, hz151, hD15⟩ | exact ⟨hz140, hz141, hD14⟩ | exact ⟨hz130, hz131, hD13⟩ | exact ⟨hz120, hz121, hD12⟩ | exact ⟨hz110, hz111, hD11⟩ | exact ⟨hz100, hz101, hD10⟩ | exact ⟨hx20, hx21, hbx2.drew⟩ | exact ⟨hx20, hx21, hbx2⟩) (first | (go_at_call 12; have hHd := ‹_ ∧ _ ∧ Below (w.heap.size + 1) _ _›; (with_reducible refine (awake_any _).mono ?_); rintro e w10 ⟨rfl, hb10⟩; have hD10 : Below (w.heap.size + 1) (w.alloc (.cells #[.slice ia il ic, .slice pa pl pc] 25)) w10 := hHd.2.2.trans (hb10.mono (Nat.le_trans (by simp) hHd.2.2.size)); have hz100 : w10.cell? ⟨w.heap.size, 0, none⟩ = some (.slice ia il ic) := boxed hD10 0; have hz101 : w10.cell? ⟨w.heap.size, 1, none⟩ = some (.slice pa pl pc) := boxed hD10 1) | (go_at_call 15; have hHd := ‹_ ∧ _ ∧ Below (w.heap.size + 1) _ _›; (with_reducible refine (valid_any _ _ _ _ _ _ G _ ?_).mono ?_); exact hG.below (belBox hHd.2.2); rintro e w11 ⟨rfl, hb11⟩; have hD11 : Below (w.heap.size + 1) (w.alloc (.cells #[.slice ia il ic, .slice pa pl pc] 25)) w11 := hHd.2.2.trans (hb11.mono (Nat.le_trans (by simp) hHd.2.2.size)); have hz110 : w11.cell? ⟨w.heap.size, 0, none⟩ = some (.slice ia il ic) := boxed hD11 0; have hz111 : w11.cell? ⟨w.heap.size, 1, none⟩ = some (.slice pa pl pc) := boxed hD11 1) | (go_at_call 16; have hHd := ‹_ ∧ _ ∧ Below (w.heap.size + 1) _ _›; (with_reducible refine (refValid_any _ _ _ _ _ _ G _ ?_).mono ?_); exact hG.below (belBox hHd.2.2); rintro e w12 ⟨rfl, hb12⟩; have hD12 : Below (w.heap.size + 1) (w.alloc (.cells #[.slice ia il ic, .slice pa pl pc] 25)) w12 := hHd.2.2.trans (hb12.mono (Nat.le_trans (by simp) hHd.2.2.size)); have hz120 : w12.cell? ⟨w.heap.size, 0, none⟩ = some (.slice ia il ic) := boxed hD12 0; have hz121 : w12.cell? ⟨w.heap.size, 1, none⟩ = some (.slice pa pl pc) := boxed hD12 1) | (go_at_call 17; have hHd := ‹_ ∧ _ ∧ Below (w.heap.size + 1) _ _›; (with_reducible refine (degree_any _ _ _ _ _ _ G v _ ?_).mono ?_); exact hG.below (belBox hHd.2.2); rintro e w13 ⟨rfl, hb13⟩; have hD13 : Below (w.heap.size + 1) (w.alloc (.cells #[.slice ia il ic, .slice pa pl pc] 25)) w13 := hHd.2.2.trans (hb13.mono (Nat.le_trans (by simp) hHd.2.2.size)); have hz130 : w13.cell? ⟨w.heap.size, 0, none⟩ = some (.slice ia il ic) := boxed hD13 0; have hz131 : w13.cell? ⟨w.heap.size, 1, none⟩ = some (.slice pa pl pc) := boxed hD13 1) | (go_at_call 18; have hHd := ‹_ ∧ _ ∧ Below (w.heap.size + 1) _ _›; (with_reducible refine (refDegree_any _ _ _ _ _ _ G v _ ?_).mono ?_); exact hG.below (belBox hHd.2.2); rintro e w14 ⟨rfl, hb14⟩; have hD14 : Below (w.heap.size + 1) (w.alloc (.cells #[.slice ia il ic, .slice pa pl pc] 25)) w14 := hHd.2.2.trans (hb14.mono (Nat.le_trans (by simp) hHd.2.2.size)); have hz140 : w14.cell? ⟨w.heap.size, 0, none⟩ = some (.slice ia il ic) := boxed hD14 0; have hz141 : w14.cell? ⟨w.heap.size, 1, none⟩ = some (.slice pa pl pc) := boxed hD14 1) | (go_at_call 19; have hHd := ‹_ ∧ _ ∧ Below (w.heap.size + 1) _ _›; (with_reducible refine (back_any _ _ _ _ _ _ G v p _ ?_).mono ?_); exact hG.below (belBox hHd.2.2); rintro e w15 ⟨rfl, hb15⟩; have hD15 : Below (w.heap.size + 1) (w.alloc (.cells #[.slice ia il ic, .slice pa pl pc] 25)) w15 := hHd.2.2.trans (hb15.mono (Nat.le_trans (by simp) hHd.2.2.size)); have hz150 : w15.cell? ⟨w.heap.size, 0, none⟩ = some (.slice ia il ic) := boxed hD15 0; have hz151 : w15.cell? ⟨w.heap.size, 1, none⟩ = some (.slice pa pl pc) := boxed hD15 1) | (go_at_call 20; have hHd := ‹_ ∧ _ ∧ Below (w.heap.size + 1) _ _›; (with_reducible refine (refBack_any _ _ _ _ _ _ G v p _ ?_).mono ?_); exact hG.below (belBox hHd.2.2); rintro e w16 ⟨rfl, hb16⟩; have hD16 : Below (w.heap.size + 1) (w.alloc (.cells #[.slice ia il ic, .slice pa pl pc] 25)) w16 := hHd.2.2.trans (hb16.mono (Nat.le_trans (by simp) hHd.2.2.size)); have hz160 : w16.cell? ⟨w.heap.size, 0, none⟩ = some (.slice ia il ic) := boxed hD16 0; have hz161 : w16.cell? ⟨w.heap.size, 1, none⟩ = some (.slice pa pl pc) := boxed hD16 1) | (go_at_call 21; have hHd := ‹_ ∧ _ ∧ Below (w.heap.size + 1) _ _›; (with_reducible refine (neighbours_any _ _ _ _ _ _ G set _ ?_ hset).mono ?_); exact hG.below (belBox hHd.2.2); rintro e w17 ⟨rfl, hb17⟩; have hD17 : Below (w.heap.size + 1) (w.alloc (.cells #[.slice ia il ic, .slice pa pl pc] 25)) w17 := hHd.2.2.trans (hb17.mono (Nat.le_trans (by simp) hHd.2.2.size)); have hz170 : w17.cell? ⟨w.heap.size, 0, none⟩ = some (.slice ia il ic) := boxed hD17 0; have hz171 : w17.cell? ⟨w.heap.size, 1, none⟩ = some (.slice pa pl pc) := boxed hD17 1) | (go_at_call 22; have hHd := ‹_ ∧ _ ∧ Below (w.heap.size + 1) _ _›; (with_reducible refine (refNeighbours_any _ _ _ _ _ _ G set _ ?_ hset).mono ?_); exact hG.below (belBox hHd.2.2); rintro e w18 ⟨rfl, hb18⟩; have hD18 : Below (w.heap.size + 1) (w.alloc (.cells #[.slice ia il ic, .slice pa pl pc] 25)) w18 := hHd.2.2.trans (hb18.mono (Nat.le_trans (by simp) hHd.2.2.size)); have hz180 : w18.cell? ⟨w.heap.size, 0, none⟩ = some (.slice ia il ic) := boxed hD18 0; have hz181 : w18.cell? ⟨w.heap.size, 1, none⟩ = some (.slice pa pl pc) := boxed hD18 1) | (go_at_call 23; have hHd := ‹_ ∧ _ ∧ Below (w.heap.size + 1) _ _›; (with_reducible refine (independent_any _ _ _ _ _ _ G set _ ?_ hset).mono ?_); exact hG.below (belBox hHd.2.2); rintro e w19 ⟨rfl, hb19⟩; have hD19 : Below (w.heap.size + 1) (w.alloc (.cells #[.slice ia il ic, .slice pa pl pc] 25)) w19 := hHd.2.2.trans (hb19.mono (Nat.le_trans (by simp) hHd.2.2.size)); have hz190 : w19.cell? ⟨w.heap.size, 0, none⟩ = some (.slice ia il ic) := boxed hD19 0; have hz191 : w19.cell? ⟨w.heap.size, 1, none⟩ = some (.slice pa pl pc) := boxed hD19 1) | (go_at_call 24; have hHd := ‹_ ∧ _ ∧ Below (w.heap.size + 1) _ _›; (with_reducible refine (refIndependent_any _ _ _ _ _ _ G set _ ?_ hset).mono ?_); exact hG.below (belBox hHd.2.2); rintro e w20 ⟨rfl, hb20⟩; have hD20 : Below (w.heap.size + 1) (w.alloc (.cells #[.slice ia il ic, .slice pa pl pc] 25)) w20 := hHd.2.2.trans (hb20.mono (Nat.le_trans (by simp) hHd.2.2.size)); have hz200 : w20.cell? ⟨w.heap.size, 0, none⟩ = some (.slice ia il ic) := boxed hD20 0; have hz201 : w20.cell? ⟨w.heap.size, 1, none⟩ = some (.slice pa pl pc) := boxed hD20 1))
    go_wp2_with fail
    go_ret
    exact ⟨rfl, belBox hD20⟩

set_option maxRecDepth 100000 in
theorem lifted (os : Os) (started : os.Started) (H : Type) (enc : TypeId × Value → H) :
    ReturnsInHanded {} Try.checked os 3 .any (Rows.graphChecksSpec.pre6 enc Try.prog Try.f3 Rows.graphChecksRow.domain false) (Rows.graphChecksSpec.post enc Try.prog Try.f3 false true false false) := by
  refine returnsInHanded_of_change (C := Try.checked) own started (by kernel_rfl) Try.func3
    (ChangeSpec.witness6 (enc := enc) (C := Try.checked) false ⟨#[], #[.agg #[.slice none 0 0, .slice none 0 0], .int .i64 0, .int .i64 0, .int .u32 0], []⟩ 8 (by kernel_rfl) (by kernel_rfl) (by kernel_rfl) (by kernel_rfl)) ?_
  intro W base args ds gs before hval0 hW hcnd _
  have hval : ∀ (j : Nat) t v, Try.f3.params[j]? = some t → args[j]? = some v → Value.okWide Try.prog W .any base t v := hval0
  have hW' := hW
  obtain ⟨p, q, hA0, hV, rfl, hfz, hnd⟩ := hW
  have hA : DataW.TrodAll enc Try.prog W 0 (fun _ => true) true Try.f3.params.toList args.toList ds p := hA0
  rw [Try.params3] at hA hval
  obtain ⟨v0, vs0, d0, ds0, p0, q0, hargs, rfl, rfl, h0, r0⟩ := trodAll_cons hA
  obtain ⟨v1, vs1, d1, ds1, p1, q1, rfl, rfl, rfl, h1, r1⟩ := trodAll_cons r0
  obtain ⟨v2, vs2, d2, ds2, p2, q2, rfl, rfl, rfl, h2, r2⟩ := trodAll_cons r1
  obtain ⟨v3, vs3, d3, ds3, p3, q3, rfl, rfl, rfl, h3, r3⟩ := trodAll_cons r2
  obtain ⟨rfl, rfl, rfl⟩ := trodAll_nil r3
  obtain rfl : args = #[v0, v1, v2, v3] := by cases args; simp_all
  obtain ⟨rfl, rfl⟩ := trodVars_none hV
  have k0 := h0
  have lt0 : ∀ x ∈ p0, x.block < W.heap.size := by obtain ⟨m, hm⟩ := k0; exact DataW.trod_lt m _ _ _ hm
  obtain ⟨ia0, il0, ic0, pa0, pl0, pc0, G0, rfl, hG0⟩ := open_graph (hval 0 25 v0 rfl rfl) h0
  have k1 := h1
  have lt1 : ∀ x ∈ p1, x.block < W.heap.size := by obtain ⟨m, hm⟩ := k1; exact DataW.trod_lt m _ _ _ hm
  obtain ⟨a1, rfl, rfl, rfl, w1⟩ := open_int Try.underlying3 (hval 1 3 v1 rfl rfl) h1
  have k2 := h2
  have lt2 : ∀ x ∈ p2, x.block < W.heap.size := by obtain ⟨m, hm⟩ := k2; exact DataW.trod_lt m _ _ _ hm
  obtain ⟨a2, rfl, rfl, rfl, w2⟩ := open_int Try.underlying3 (hval 2 3 v2 rfl rfl) h2
  have k3 := h3
  have lt3 : ∀ x ∈ p3, x.block < W.heap.size := by obtain ⟨m, hm⟩ := k3; exact DataW.trod_lt m _ _ _ hm
  obtain ⟨a3, rfl, rfl, rfl, w3⟩ := open_int Try.underlying26 (hval 3 26 v3 rfl rfl) h3
  clear hA0 hval0
  refine (walk W ia0 il0 ic0 pa0 pl0 pc0 G0 hG0 a1 w1 a2 w2 a3 w3).mono fun e W' ⟨he, bel⟩ => ?_
  subst he
  exact ⟨_, rfl, _, _, _, [], _, [], hW', trodAll_mk1 (shut_bool Try.underlying4 _), (trodAll_cons_mk (Below.trod laidOut (by kernel_rfl) (of_decide_eq_true (by kernel_rfl)) k0 bel lt0) (trodAll_cons_mk (Below.trod laidOut (by kernel_rfl) (of_decide_eq_true (by kernel_rfl)) k1 bel lt1) (trodAll_cons_mk (Below.trod laidOut (by kernel_rfl) (of_decide_eq_true (by kernel_rfl)) k2 bel lt2) (trodAll_cons_mk (Below.trod laidOut (by kernel_rfl) (of_decide_eq_true (by kernel_rfl)) k3 bel lt3) trodAll_mk0)))), rfl, bel.frame _, fun h => by cases h⟩

theorem over : Rows.graphChecksRow.holds Try.pinned (OpenSpec.ofChange Rows.graphChecksSpec) :=
  OpenClaim.holds_of_wide 3 Try.f3 rfl rfl rfl rfl rfl rfl rfl ⟨rfl, rfl, rfl, rfl, rfl⟩ rfl rfl rfl rfl rfl (by kernel_rfl) Try.func3 (by kernel_rfl)
    (of_decide_eq_true (by kernel_rfl)) (by unfold Func.isWrapper; first | (rw [if_pos (by decide +kernel)]; kernel_rfl) | (rw [if_neg (by decide +kernel)]; exact ⟨rfl, rfl⟩))
    (fun os started H enc _ => lifted os started H enc)

theorem proved : Rows.GraphChecksSaid := over
end Go.Proofs.Ytdclfhekmgnaiaa.lawGraphChecks
