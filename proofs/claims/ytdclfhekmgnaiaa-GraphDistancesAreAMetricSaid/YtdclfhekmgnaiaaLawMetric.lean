/- Distances are symmetric, and a detour is not shorter. No conditions: every input. -/
import Derived.Test.YtdclfhekmgnaiaaGraph8
import Derived.OpenShut
import Derived.ChangeOld
import Derived.Deep.RegionHeld3
namespace Go.Proofs.Ytdclfhekmgnaiaa.lawGraphDistancesAreAMetric
open Go.ChangeShapes Go.WideShapes Go.ChangeAt Go.RowKit
set_option linter.unusedVariables false

theorem lt_cell {w : World} {b i : Nat} {v : Value} (h : w.cell? ⟨b, i, none⟩ = some v) : b < w.heap.size := cell_lt h

set_option maxRecDepth 100000 in
set_option maxHeartbeats 2000000 in
theorem walk (w : World) (ia : Option Addr) (il ic : Nat) (pa : Option Addr) (pl pc : Nat) (G : Gr) (hG : GraphAt w ia il pa pl G) (a1 : Int) (wf1 : (Lit.int .i64 a1).wf = true) (a2 : Int) (wf2 : (Lit.int .i64 a2).wf = true) (a3 : Int) (wf3 : (Lit.int .i64 a3).wf = true) :
    Calls Try.prog 7 #[.agg #[.slice ia il ic, .slice pa pl pc], .int .i64 a1, .int .i64 a2, .int .i64 a3] w fun e w' => e = .returned (.bool true) ∧ Below w.heap.size w w' := by
  have Hpl := Lib.hid hG.pl
  cases hf : fairB G with
  | false =>
    go_enter Try.func7, Try.ntmps7
    go_wp2_with (first | (go_at_call 36; refine (fair_any _ _ _ _ _ _ G _ (hG.alloc _)).mono ?_; rintro e w1 ⟨rfl, hb1⟩) | (go_at_call 12; refine (awake_any _).mono ?_; rintro e w2 ⟨rfl, hb2⟩))
    go_ret
    exact ⟨rfl, (((Below.refl _ _).alloc (Nat.le_refl _) _).trans (hb1.mono (by simp))).trans (hb2.mono (Nat.le_trans (by simp) hb1.size))⟩
  | true =>
    have HV := Lib.hid (fairB_iff.1 hf).2
    have hp1 : 1 ≤ pl := by have := HV.out.pos; have := Hpl.out; omega
    have hp24 : pl ≤ 24 := by have := HV.out.le; have := Hpl.out; omega
    obtain ⟨sa, hsa, hsal⟩ := mod_nat a1 hp1
    obtain ⟨sb, hsb, hsbl⟩ := mod_nat a2 hp1
    obtain ⟨sc, hsc, hscl⟩ := mod_nat a3 hp1
    have Hi1 := Lib.hid (wf_I64 wf1)
    have Hi2 := Lib.hid (wf_I64 wf2)
    have Hi3 := Lib.hid (wf_I64 wf3)
    have hq : ((pl : Int) != pl) = false := by simp
    have i1 : (sa : Int) < pl := by omega
    have i2 : (sb : Int) < pl := by omega
    have i3 : (sc : Int) < pl := by omega
    have HS1 := Lib.hid (distF_symm HV.out (s := sa) (t := sb) (by have := Hpl.out; omega) (by have := Hpl.out; omega))
    have HS2 := Lib.hid (distF_symm HV.out (s := sb) (t := sc) (by have := Hpl.out; omega) (by have := Hpl.out; omega))
    have HT := Lib.hid (distF_tri (G := G) (a := sa) (b := sb) (c := sc))
    have b1 : distF G sa sb < 24 := by have := distF_lt HV.out (s := sa) (v := sb) (by have := Hpl.out; omega); have := HV.out.le; omega
    have b2 : distF G sb sc < 24 := by have := distF_lt HV.out (s := sb) (v := sc) (by have := Hpl.out; omega); have := HV.out.le; omega
    have l1 := distF_low G sa sb
    have l2 := distF_low G sb sc
    clear wf1 wf2 wf3
    go_enter Try.func7, Try.ntmps7
    go_wp2_with (first | (go_at_call 36; refine (fair_any _ _ _ _ _ _ G _ (hG.alloc _)).mono ?_; rintro e w1 ⟨rfl, hb1⟩; have hbx : Below (w.heap.size + 1) (w.alloc (.cells #[.slice ia il ic, .slice pa pl pc] 25)) w1 := hb1.mono (by simp); have hx10 : w1.cell? ⟨w.heap.size, 0, none⟩ = some (.slice ia il ic) := boxed hbx 0; have hx11 : w1.cell? ⟨w.heap.size, 1, none⟩ = some (.slice pa pl pc) := boxed hbx 1) | (go_at_call 37; first | ((with_reducible refine (mod_any a1 _ _ Hi1.out hp1 (by omega)).mono ?_); rintro e w2 ⟨rfl, rfl⟩; rw [hsa]) | ((with_reducible refine (mod_any a2 _ _ Hi2.out hp1 (by omega)).mono ?_); rintro e w2 ⟨rfl, rfl⟩; rw [hsb]) | ((with_reducible refine (mod_any a3 _ _ Hi3.out hp1 (by omega)).mono ?_); rintro e w2 ⟨rfl, rfl⟩; rw [hsc])))
    go_region_held3 (fun w' => (w'.cell? ⟨w.heap.size, 0, none⟩ = some (.slice ia il ic) ∧ w'.cell? ⟨w.heap.size, 1, none⟩ = some (.slice pa pl pc) ∧ Below (w.heap.size + 1) (w.alloc (.cells #[.slice ia il ic, .slice pa pl pc] 25)) w')) (first | exact ⟨hz40, hz41, hD4⟩ | exact ⟨hz30, hz31, hD3⟩ | exact ⟨hz20, hz21, hD2⟩ | exact ⟨hx10, hx11, hbx.drew⟩ | exact ⟨hx10, hx11, hbx⟩) (first | (go_at_call 26; have hHd := ‹_ ∧ _ ∧ Below (w.heap.size + 1) _ _›; (with_reducible refine (distancesOf_any _ _ _ _ _ _ G sa _ ?_ HV.out ?_).mono ?_); exact hG.below (belBox hHd.2.2); exact hsal; rintro e w2 ⟨⟨fsa, rfl, hfsa, hMsa⟩, hb2⟩; have HMsa := Lib.hid hMsa; clear hMsa; have hD2 := hHd.2.2.trans (hb2.mono (Nat.le_trans (by simp) hHd.2.2.size)); have hz20 : w2.cell? ⟨w.heap.size, 0, none⟩ = some (.slice ia il ic) := boxed hD2 0; have hz21 : w2.cell? ⟨w.heap.size, 1, none⟩ = some (.slice pa pl pc) := boxed hD2 1) | (go_at_call 26; have hHd := ‹_ ∧ _ ∧ Below (w.heap.size + 1) _ _›; (with_reducible refine (distancesOf_any _ _ _ _ _ _ G sb _ ?_ HV.out ?_).mono ?_); exact hG.below (belBox hHd.2.2); exact hsbl; rintro e w3 ⟨⟨fsb, rfl, hfsb, hMsb⟩, hb3⟩; have HMsb := Lib.hid hMsb; clear hMsb; have HMsa3 := Lib.hid (HMsa.out.keep hb3.size (hb3.block _ HMsa.out.1)); have hD3 := hHd.2.2.trans (hb3.mono (Nat.le_trans (by simp) hHd.2.2.size)); have hz30 : w3.cell? ⟨w.heap.size, 0, none⟩ = some (.slice ia il ic) := boxed hD3 0; have hz31 : w3.cell? ⟨w.heap.size, 1, none⟩ = some (.slice pa pl pc) := boxed hD3 1) | (go_at_call 26; have hHd := ‹_ ∧ _ ∧ Below (w.heap.size + 1) _ _›; (with_reducible refine (distancesOf_any _ _ _ _ _ _ G sc _ ?_ HV.out ?_).mono ?_); exact hG.below (belBox hHd.2.2); exact hscl; rintro e w4 ⟨⟨fsc, rfl, hfsc, hMsc⟩, hb4⟩; have HMsc := Lib.hid hMsc; clear hMsc; have HMsa4 := Lib.hid (HMsa3.out.keep hb4.size (hb4.block _ HMsa3.out.1)); have HMsb4 := Lib.hid (HMsb.out.keep hb4.size (hb4.block _ HMsb.out.1)); have hD4 := hHd.2.2.trans (hb4.mono (Nat.le_trans (by simp) hHd.2.2.size)); have hz40 : w4.cell? ⟨w.heap.size, 0, none⟩ = some (.slice ia il ic) := boxed hD4 0; have hz41 : w4.cell? ⟨w.heap.size, 1, none⟩ = some (.slice pa pl pc) := boxed hD4 1))
    have c1 := (HMsa4.out.2 sb hsbl).1
    have c2 := (HMsb4.out.2 sc hscl).1
    have c3 := (HMsa4.out.2 sc hscl).1
    have c4 := (HMsb4.out.2 sa hsal).1
    have c5 := (HMsc.out.2 sb hsbl).1
    rw [← HS1.out] at c4
    rw [← HS2.out] at c5
    generalize distF G sa sb = x at *
    generalize distF G sb sc = y at *
    generalize distF G sa sc = z at *
    have q1 : (x == x) = true := by simp
    have q2 : (y == y) = true := by simp
    by_cases hx : 0 ≤ x
    all_goals by_cases hy : 0 ≤ y
    · have hT := HT.out hx hy
      obtain ⟨t1, t2⟩ := hT
      have d1 : decide (0 ≤ x) = true := by simpa using hx
      have d2 : decide (0 ≤ y) = true := by simpa using hy
      have d3 : decide (z < 0) = false := by simp; omega
      have d4 : decide (x + y < z) = false := by simp; omega
      go_wp2
      try (go_quiet (fail); go_wp2)
      go_region_held3 (fun w' => (w'.cell? ⟨fsa, sb, none⟩ = some (.int .i64 x) ∧ w'.cell? ⟨fsb, sa, none⟩ = some (.int .i64 x) ∧ w'.cell? ⟨fsb, sc, none⟩ = some (.int .i64 y) ∧ w'.cell? ⟨fsc, sb, none⟩ = some (.int .i64 y) ∧ Below w.heap.size w w')) (first | exact ⟨cc1, cc4, cc2, cc5, hDD⟩ | exact ⟨c1, c4, c2, c5, (belDraws (belBox hD4) _).drew⟩ | exact ⟨c1, c4, c2, c5, belDraws (belBox hD4) _⟩ | exact ⟨c1, c4, c2, c5, (belBox hD4).drew⟩) (first | (go_at_call 12; have hHd := ‹_ ∧ _ ∧ _ ∧ _ ∧ Below w.heap.size w _›; (with_reducible refine (awake_any _).mono ?_); rintro e w5 ⟨rfl, hb5⟩; have cc1 := (hb5.cell (p := ⟨fsa, sb, none⟩) (lt_cell hHd.1)).trans hHd.1; have cc4 := (hb5.cell (p := ⟨fsb, sa, none⟩) (lt_cell hHd.2.1)).trans hHd.2.1; have cc2 := (hb5.cell (p := ⟨fsb, sc, none⟩) (lt_cell hHd.2.2.1)).trans hHd.2.2.1; have cc5 := (hb5.cell (p := ⟨fsc, sb, none⟩) (lt_cell hHd.2.2.2.1)).trans hHd.2.2.2.1; have hDD := hHd.2.2.2.2.trans (hb5.mono hHd.2.2.2.2.size)))
      have hHd := ‹_ ∧ _ ∧ _ ∧ _ ∧ Below w.heap.size w _›
      go_wp2
      go_ret
      exact ⟨rfl, hHd.2.2.2.2⟩
    · have d1 : decide (0 ≤ x) = true := by simpa using hx
      have d2 : decide (0 ≤ y) = false := by simpa using hy
      go_wp2
      try (go_quiet (fail); go_wp2)
      go_region_held3 (fun w' => (w'.cell? ⟨fsa, sb, none⟩ = some (.int .i64 x) ∧ w'.cell? ⟨fsb, sa, none⟩ = some (.int .i64 x) ∧ w'.cell? ⟨fsb, sc, none⟩ = some (.int .i64 y) ∧ w'.cell? ⟨fsc, sb, none⟩ = some (.int .i64 y) ∧ Below w.heap.size w w')) (first | exact ⟨cc1, cc4, cc2, cc5, hDD⟩ | exact ⟨c1, c4, c2, c5, (belDraws (belBox hD4) _).drew⟩ | exact ⟨c1, c4, c2, c5, belDraws (belBox hD4) _⟩ | exact ⟨c1, c4, c2, c5, (belBox hD4).drew⟩) (first | (go_at_call 12; have hHd := ‹_ ∧ _ ∧ _ ∧ _ ∧ Below w.heap.size w _›; (with_reducible refine (awake_any _).mono ?_); rintro e w5 ⟨rfl, hb5⟩; have cc1 := (hb5.cell (p := ⟨fsa, sb, none⟩) (lt_cell hHd.1)).trans hHd.1; have cc4 := (hb5.cell (p := ⟨fsb, sa, none⟩) (lt_cell hHd.2.1)).trans hHd.2.1; have cc2 := (hb5.cell (p := ⟨fsb, sc, none⟩) (lt_cell hHd.2.2.1)).trans hHd.2.2.1; have cc5 := (hb5.cell (p := ⟨fsc, sb, none⟩) (lt_cell hHd.2.2.2.1)).trans hHd.2.2.2.1; have hDD := hHd.2.2.2.2.trans (hb5.mono hHd.2.2.2.2.size)))
      have hHd := ‹_ ∧ _ ∧ _ ∧ _ ∧ Below w.heap.size w _›
      go_wp2
      go_ret
      exact ⟨rfl, hHd.2.2.2.2⟩
    · have d1 : decide (0 ≤ x) = false := by simpa using hx
      go_wp2
      try (go_quiet (fail); go_wp2)
      go_region_held3 (fun w' => (w'.cell? ⟨fsa, sb, none⟩ = some (.int .i64 x) ∧ w'.cell? ⟨fsb, sa, none⟩ = some (.int .i64 x) ∧ w'.cell? ⟨fsb, sc, none⟩ = some (.int .i64 y) ∧ w'.cell? ⟨fsc, sb, none⟩ = some (.int .i64 y) ∧ Below w.heap.size w w')) (first | exact ⟨cc1, cc4, cc2, cc5, hDD⟩ | exact ⟨c1, c4, c2, c5, (belDraws (belBox hD4) _).drew⟩ | exact ⟨c1, c4, c2, c5, belDraws (belBox hD4) _⟩ | exact ⟨c1, c4, c2, c5, (belBox hD4).drew⟩) (first | (go_at_call 12; have hHd := ‹_ ∧ _ ∧ _ ∧ _ ∧ Below w.heap.size w _›; (with_reducible refine (awake_any _).mono ?_); rintro e w5 ⟨rfl, hb5⟩; have cc1 := (hb5.cell (p := ⟨fsa, sb, none⟩) (lt_cell hHd.1)).trans hHd.1; have cc4 := (hb5.cell (p := ⟨fsb, sa, none⟩) (lt_cell hHd.2.1)).trans hHd.2.1; have cc2 := (hb5.cell (p := ⟨fsb, sc, none⟩) (lt_cell hHd.2.2.1)).trans hHd.2.2.1; have cc5 := (hb5.cell (p := ⟨fsc, sb, none⟩) (lt_cell hHd.2.2.2.1)).trans hHd.2.2.2.1; have hDD := hHd.2.2.2.2.trans (hb5.mono hHd.2.2.2.2.size)))
      have hHd := ‹_ ∧ _ ∧ _ ∧ _ ∧ Below w.heap.size w _›
      go_wp2
      go_ret
      exact ⟨rfl, hHd.2.2.2.2⟩
    · have d1 : decide (0 ≤ x) = false := by simpa using hx
      go_wp2
      try (go_quiet (fail); go_wp2)
      go_region_held3 (fun w' => (w'.cell? ⟨fsa, sb, none⟩ = some (.int .i64 x) ∧ w'.cell? ⟨fsb, sa, none⟩ = some (.int .i64 x) ∧ w'.cell? ⟨fsb, sc, none⟩ = some (.int .i64 y) ∧ w'.cell? ⟨fsc, sb, none⟩ = some (.int .i64 y) ∧ Below w.heap.size w w')) (first | exact ⟨cc1, cc4, cc2, cc5, hDD⟩ | exact ⟨c1, c4, c2, c5, (belDraws (belBox hD4) _).drew⟩ | exact ⟨c1, c4, c2, c5, belDraws (belBox hD4) _⟩ | exact ⟨c1, c4, c2, c5, (belBox hD4).drew⟩) (first | (go_at_call 12; have hHd := ‹_ ∧ _ ∧ _ ∧ _ ∧ Below w.heap.size w _›; (with_reducible refine (awake_any _).mono ?_); rintro e w5 ⟨rfl, hb5⟩; have cc1 := (hb5.cell (p := ⟨fsa, sb, none⟩) (lt_cell hHd.1)).trans hHd.1; have cc4 := (hb5.cell (p := ⟨fsb, sa, none⟩) (lt_cell hHd.2.1)).trans hHd.2.1; have cc2 := (hb5.cell (p := ⟨fsb, sc, none⟩) (lt_cell hHd.2.2.1)).trans hHd.2.2.1; have cc5 := (hb5.cell (p := ⟨fsc, sb, none⟩) (lt_cell hHd.2.2.2.1)).trans hHd.2.2.2.1; have hDD := hHd.2.2.2.2.trans (hb5.mono hHd.2.2.2.2.size)))
      have hHd := ‹_ ∧ _ ∧ _ ∧ _ ∧ Below w.heap.size w _›
      go_wp2
      go_ret
      exact ⟨rfl, hHd.2.2.2.2⟩

set_option maxRecDepth 100000 in
theorem lifted (os : Os) (started : os.Started) (H : Type) (enc : TypeId × Value → H) :
    ReturnsInHanded {} Try.checked os 7 .any (Rows.graphDistancesAreAMetricSpec.pre6 enc Try.prog Try.f7 Rows.graphDistancesAreAMetricRow.domain false) (Rows.graphDistancesAreAMetricSpec.post enc Try.prog Try.f7 false true false false) := by
  refine returnsInHanded_of_change (C := Try.checked) own started (by kernel_rfl) Try.func7
    (ChangeSpec.witness6 (enc := enc) (C := Try.checked) false ⟨#[], #[.agg #[.slice none 0 0, .slice none 0 0], .int .i64 0, .int .i64 0, .int .i64 0], []⟩ 8 (by kernel_rfl) (by kernel_rfl) (by kernel_rfl) (by kernel_rfl)) ?_
  intro W base args ds gs before hval0 hW hcnd _
  have hval : ∀ (j : Nat) t v, Try.f7.params[j]? = some t → args[j]? = some v → Value.okWide Try.prog W .any base t v := hval0
  have hW' := hW
  obtain ⟨p, q, hA0, hV, rfl, hfz, hnd⟩ := hW
  have hA : DataW.TrodAll enc Try.prog W 0 (fun _ => true) true Try.f7.params.toList args.toList ds p := hA0
  rw [Try.params7] at hA hval
  obtain ⟨v0, vs0, d0, ds0, p0, q0, hargs, rfl, rfl, h0, r0⟩ := trodAll_cons hA
  obtain ⟨v1, vs1, d1, ds1, p1, q1, rfl, rfl, rfl, h1, r1⟩ := trodAll_cons r0
  obtain ⟨v2, vs2, d2, ds2, p2, q2, rfl, rfl, rfl, h2, r2⟩ := trodAll_cons r1
  obtain ⟨v3, vs3, d3, ds3, p3, q3, rfl, rfl, rfl, h3, r3⟩ := trodAll_cons r2
  obtain ⟨rfl, rfl, rfl⟩ := trodAll_nil r3
  obtain rfl : args = #[v0, v1, v2, v3] := by cases args; simp_all
  obtain ⟨rfl, rfl⟩ := trodVars_none hV
  have k0 := h0
  have lt0 : ∀ x ∈ p0, x.block < W.heap.size := by obtain ⟨m, hm⟩ := k0; exact DataW.trod_lt m _ _ _ hm
  obtain ⟨ia0, il0, ic0, pa0, pl0, pc0, G0, rfl, hG0⟩ := open_graph (hval 0 25 v0 rfl rfl) h0
  have k1 := h1
  have lt1 : ∀ x ∈ p1, x.block < W.heap.size := by obtain ⟨m, hm⟩ := k1; exact DataW.trod_lt m _ _ _ hm
  obtain ⟨a1, rfl, rfl, rfl, w1⟩ := open_int Try.underlying3 (hval 1 3 v1 rfl rfl) h1
  have k2 := h2
  have lt2 : ∀ x ∈ p2, x.block < W.heap.size := by obtain ⟨m, hm⟩ := k2; exact DataW.trod_lt m _ _ _ hm
  obtain ⟨a2, rfl, rfl, rfl, w2⟩ := open_int Try.underlying3 (hval 2 3 v2 rfl rfl) h2
  have k3 := h3
  have lt3 : ∀ x ∈ p3, x.block < W.heap.size := by obtain ⟨m, hm⟩ := k3; exact DataW.trod_lt m _ _ _ hm
  obtain ⟨a3, rfl, rfl, rfl, w3⟩ := open_int Try.underlying3 (hval 3 3 v3 rfl rfl) h3
  clear hA0 hval0
  refine (walk W ia0 il0 ic0 pa0 pl0 pc0 G0 hG0 a1 w1 a2 w2 a3 w3).mono fun e W' ⟨he, bel⟩ => ?_
  subst he
  exact ⟨_, rfl, _, _, _, [], _, [], hW', trodAll_mk1 (shut_bool Try.underlying4 _), (trodAll_cons_mk (Below.trod laidOut (by kernel_rfl) (of_decide_eq_true (by kernel_rfl)) k0 bel lt0) (trodAll_cons_mk (Below.trod laidOut (by kernel_rfl) (of_decide_eq_true (by kernel_rfl)) k1 bel lt1) (trodAll_cons_mk (Below.trod laidOut (by kernel_rfl) (of_decide_eq_true (by kernel_rfl)) k2 bel lt2) (trodAll_cons_mk (Below.trod laidOut (by kernel_rfl) (of_decide_eq_true (by kernel_rfl)) k3 bel lt3) trodAll_mk0)))), rfl, bel.frame _, fun h => by cases h⟩

theorem over : Rows.graphDistancesAreAMetricRow.holds Try.pinned (OpenSpec.ofChange Rows.graphDistancesAreAMetricSpec) :=
  OpenClaim.holds_of_wide 7 Try.f7 rfl rfl rfl rfl rfl rfl rfl ⟨rfl, rfl, rfl, rfl, rfl⟩ rfl rfl rfl rfl rfl (by kernel_rfl) Try.func7 (by kernel_rfl)
    (of_decide_eq_true (by kernel_rfl)) (by unfold Func.isWrapper; first | (rw [if_pos (by decide +kernel)]; kernel_rfl) | (rw [if_neg (by decide +kernel)]; exact ⟨rfl, rfl⟩))
    (fun os started H enc _ => lifted os started H enc)

theorem proved : Rows.GraphDistancesAreAMetricSaid := over
end Go.Proofs.Ytdclfhekmgnaiaa.lawGraphDistancesAreAMetric
