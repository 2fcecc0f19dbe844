/- In a connected graph each eccentricity is at most the diameter and at least half of it, and the diameter is one of them; in a graph that is not connected the functions return -1. No conditions: every input. -/
import Derived.Test.YtdclfhekmgnaiaaDist2
import Derived.OpenShut
import Derived.ChangeOld
namespace Go.Proofs.Ytdclfhekmgnaiaa.lawGraphEccentricities
open Go.ChangeShapes Go.WideShapes Go.ChangeAt Go.RowKit
set_option linter.unusedVariables false

set_option maxHeartbeats 1000000 in
theorem walk (w : World) (ia : Option Addr) (il ic : Nat) (pa : Option Addr) (pl pc : Nat) (G : Gr) (hG : GraphAt w ia il pa pl G) :
    Calls Try.prog 8 #[.agg #[.slice ia il ic, .slice pa pl pc]] w fun e w' => e = .returned (.bool true) ∧ Below w.heap.size w w' := by
  have Hpl := Lib.hid hG.pl
  cases hf : fairB G with
  | false =>
    go_enter Try.func8, Try.ntmps8
    go_wp2_with (first | (go_at_call 36; refine (fair_any _ _ _ _ _ _ G _ (hG.alloc _)).mono ?_; rintro e w1 ⟨rfl, hb1⟩) | (go_at_call 12; refine (awake_any _).mono ?_; rintro e w2 ⟨rfl, hb2⟩))
    go_ret
    exact ⟨rfl, (((Below.refl _ _).alloc (Nat.le_refl _) _).trans (hb1.mono (by simp))).trans (hb2.mono (Nat.le_trans (by simp) hb1.size))⟩
  | true =>
    have HV := Lib.hid (fairB_iff.1 hf).2
    have hp1 : 1 ≤ pl := by have := HV.out.pos; have := Hpl.out; omega
    have hpm : (pl : Int) ≤ 9223372036854775807 := by have := HV.out.le; have := Hpl.out; omega
    cases hc : connB G with
    | false =>
      have hd : diamF G = -1 := by simp [diamF, hc]
      have he : eccF G 0 = -1 := by simp [eccF, hc]
      go_enter Try.func8, Try.ntmps8
      go_wp2_with (first | (go_at_call 36; refine (fair_any _ _ _ _ _ _ G _ (hG.alloc _)).mono ?_; rintro e w1 ⟨rfl, hb1⟩; have hbx : Below (w.heap.size + 1) (w.alloc (.cells #[.slice ia il ic, .slice pa pl pc] 25)) w1 := hb1.mono (by simp); have hx10 : w1.cell? ⟨w.heap.size, 0, none⟩ = some (.slice ia il ic) := boxed hbx 0; have hx11 : w1.cell? ⟨w.heap.size, 1, none⟩ = some (.slice pa pl pc) := boxed hbx 1) | (go_at_call 32; refine (diameter_any _ _ _ _ _ _ G _ (hG.below (belBox hbx))).mono ?_; rintro e w2 ⟨rfl, hb2⟩; have hbx2 := hbx.trans (hb2.mono (Nat.le_trans (by simp) hbx.size)); have hx20 : w2.cell? ⟨w.heap.size, 0, none⟩ = some (.slice ia il ic) := boxed hbx2 0; have hx21 : w2.cell? ⟨w.heap.size, 1, none⟩ = some (.slice pa pl pc) := boxed hbx2 1) | (go_at_call 28; refine (connected_any _ _ _ _ _ _ G _ (hG.below (belBox hbx2))).mono ?_; rintro e w3 ⟨rfl, hb3⟩; have hbx3 := hbx2.trans (hb3.mono (Nat.le_trans (by simp) hbx2.size)); have hx30 : w3.cell? ⟨w.heap.size, 0, none⟩ = some (.slice ia il ic) := boxed hbx3 0; have hx31 : w3.cell? ⟨w.heap.size, 1, none⟩ = some (.slice pa pl pc) := boxed hbx3 1) | (go_at_call 12; refine (awake_any _).mono ?_; rintro e w4 ⟨rfl, hb4⟩; have hbx4 := hbx3.trans (hb4.mono (Nat.le_trans (by simp) hbx3.size)); have hx40 : w4.cell? ⟨w.heap.size, 0, none⟩ = some (.slice ia il ic) := boxed hbx4 0; have hx41 : w4.cell? ⟨w.heap.size, 1, none⟩ = some (.slice pa pl pc) := boxed hbx4 1) | (go_at_call 30; refine (ecc_any _ _ _ _ _ _ G 0 _ (hG.below (belBox hbx4))).mono ?_; rintro e w5 ⟨rfl, hb5⟩))
      go_ret
      exact ⟨rfl, (belBox hbx4).trans (hb5.mono (belBox hbx4).size)⟩
    | true =>
      go_enter Try.func8, Try.ntmps8
      go_wp2_with (first | (go_at_call 36; refine (fair_any _ _ _ _ _ _ G _ (hG.alloc _)).mono ?_; rintro e w1 ⟨rfl, hb1⟩; have hbx : Below (w.heap.size + 1) (w.alloc (.cells #[.slice ia il ic, .slice pa pl pc] 25)) w1 := hb1.mono (by simp); have hx10 : w1.cell? ⟨w.heap.size, 0, none⟩ = some (.slice ia il ic) := boxed hbx 0; have hx11 : w1.cell? ⟨w.heap.size, 1, none⟩ = some (.slice pa pl pc) := boxed hbx 1) | (go_at_call 32; refine (diameter_any _ _ _ _ _ _ G _ (hG.below (belBox hbx))).mono ?_; rintro e w2 ⟨rfl, hb2⟩; have hbx2 := hbx.trans (hb2.mono (Nat.le_trans (by simp) hbx.size)); have hx20 : w2.cell? ⟨w.heap.size, 0, none⟩ = some (.slice ia il ic) := boxed hbx2 0; have hx21 : w2.cell? ⟨w.heap.size, 1, none⟩ = some (.slice pa pl pc) := boxed hbx2 1) | (go_at_call 28; refine (connected_any _ _ _ _ _ _ G _ (hG.below (belBox hbx2))).mono ?_; rintro e w3 ⟨rfl, hb3⟩; have hbx3 := hbx2.trans (hb3.mono (Nat.le_trans (by simp) hbx2.size)); have hx30 : w3.cell? ⟨w.heap.size, 0, none⟩ = some (.slice ia il ic) := boxed hbx3 0; have hx31 : w3.cell? ⟨w.heap.size, 1, none⟩ = some (.slice pa pl pc) := boxed hbx3 1))
      clear hx10 hx11 hx20 hx21 hx30 hx31 hb1 hb2 hb3
      go_loopw [4, 5] (fun f t wr => ∃ k : Nat, k ≤ pl ∧ t = .int .i64 k ∧ (∃ b : Bool, f = .bool b ∧ (b = true ↔ ∃ j, j < k ∧ eF G j = diamF G)) ∧ Below (w.heap.size + 1) (w.alloc (.cells #[.slice ia il ic, .slice pa pl pc] 25)) wr) (fun _ t _ => pl - (intOf t).toNat)
      case atStart => exact ⟨0, Nat.zero_le _, rfl, ⟨false, rfl, by simp⟩, hbx3⟩
      case round =>
        obtain ⟨k, hk, rfl, ⟨fd, rfl, hfd⟩, hbel⟩ := hrel
        have Hfd := Lib.hid hfd
        clear hfd hbx hbx2 hbx3
        have hb0 : wr.cell? ⟨w.heap.size, 0, none⟩ = some (.slice ia il ic) := boxed hbel 0
        have hb1 : wr.cell? ⟨w.heap.size, 1, none⟩ = some (.slice pa pl pc) := boxed hbel 1
        by_cases hlt : k < pl
        · have hE := ecc_eq hc (v := k) (by have := Hpl.out; omega)
          have hB := eF_bounds hc (v := k) (by have := Hpl.out; omega)
          have hy2 : diamF G < 24 := by have := diamF_lt hc; have := HV.out.le; omega
          generalize hx : eF G k = x at *
          generalize hy : diamF G = y at *
          have Hx := Lib.hid hx
          have Hy := Lib.hid hy
          clear hx hy
          have g1 : 0 ≤ x := hB.1
          have g2 : x ≤ y := hB.2.1
          have g3 : y ≤ 2 * x := hB.2.2
          have e1 : decide (x < 0) = false := by simp; omega
          have e2 : decide (y < x) = false := by simp; omega
          have e3 : decide (2 * x < y) = false := by simp; omega
          clear hB
          have key : ∀ b' : Bool, (b' = true ↔ fd = true ∨ x = y) → (b' = true ↔ ∃ j, j < k + 1 ∧ eF G j = y) := fun b' hb' => by
            rw [hb', Hfd.out]
            constructor
            · rintro (⟨j, hj, e⟩ | e)
              · exact ⟨j, by omega, e⟩
              · exact ⟨k, by omega, by rw [Hx.out, e]⟩
            · rintro ⟨j, hj, e⟩
              rcases Nat.lt_or_ge j k with h | h
              · exact .inl ⟨j, h, e⟩
              · rw [show j = k by omega, Hx.out] at e; exact .inr e
          have Key := Lib.hid key
          clear key
          by_cases hxy : x = y
          · have e4 : (x == y) = true := by simpa using hxy
            have Hxy := Lib.hid hxy
            clear hxy
            cases fd
            all_goals
              go_wp2_with (go_at_call 30; refine (ecc_any _ _ _ _ _ _ G k _ (hG.below (belBox hbel))).mono ?_; rintro e w5 ⟨rfl, hb5⟩; rw [hE])
              go_roundw
              case rel => exact ⟨k + 1, by omega, by go_num, ⟨true, rfl, Key.out true (by simp [Hxy.out])⟩, hbel.trans (hb5.mono (Nat.le_trans (by simp) hbel.size))⟩
              case measure => simp [intOf]; omega
          · have e4 : (x == y) = false := by simpa using hxy
            have Hxy := Lib.hid hxy
            clear hxy
            cases fd
            · go_wp2_with (go_at_call 30; refine (ecc_any _ _ _ _ _ _ G k _ (hG.below (belBox hbel))).mono ?_; rintro e w5 ⟨rfl, hb5⟩; rw [hE])
              go_roundw
              case rel => exact ⟨k + 1, by omega, by go_num, ⟨false, rfl, Key.out false (by simp [Hxy.out])⟩, hbel.trans (hb5.mono (Nat.le_trans (by simp) hbel.size))⟩
              case measure => simp [intOf]; omega
            · go_wp2_with (go_at_call 30; refine (ecc_any _ _ _ _ _ _ G k _ (hG.below (belBox hbel))).mono ?_; rintro e w5 ⟨rfl, hb5⟩; rw [hE])
              go_roundw
              case rel => exact ⟨k + 1, by omega, by go_num, ⟨true, rfl, Key.out true (by simp)⟩, hbel.trans (hb5.mono (Nat.le_trans (by simp) hbel.size))⟩
              case measure => simp [intOf]; omega
        · have hfin : fd = true := Hfd.out.2 (by
            obtain ⟨v, hv, e⟩ := eF_attained hc
            exact ⟨v, by have := Hpl.out; omega, e⟩)
          subst hfin
          go_wp2_with (go_at_call 12; refine (awake_any _).mono ?_; rintro e w6 ⟨rfl, hb6⟩)
          go_ret
          exact ⟨rfl, (belBox hbel).trans (hb6.mono (belBox hbel).size)⟩

set_option maxRecDepth 100000 in
theorem lifted (os : Os) (started : os.Started) (H : Type) (enc : TypeId × Value → H) :
    ReturnsInHanded {} Try.checked os 8 .any (Rows.graphEccentricitiesSpec.pre6 enc Try.prog Try.f8 Rows.graphEccentricitiesRow.domain false) (Rows.graphEccentricitiesSpec.post enc Try.prog Try.f8 false true false false) := by
  refine returnsInHanded_of_change (C := Try.checked) own started (by kernel_rfl) Try.func8
    (ChangeSpec.witness6 (enc := enc) (C := Try.checked) false ⟨#[], #[.agg #[.slice none 0 0, .slice none 0 0]], []⟩ 8 (by kernel_rfl) (by kernel_rfl) (by kernel_rfl) (by kernel_rfl)) ?_
  intro W base args ds gs before hval0 hW hcnd _
  have hval : ∀ (j : Nat) t v, Try.f8.params[j]? = some t → args[j]? = some v → Value.okWide Try.prog W .any base t v := hval0
  have hW' := hW
  obtain ⟨p, q, hA0, hV, rfl, hfz, hnd⟩ := hW
  have hA : DataW.TrodAll enc Try.prog W 0 (fun _ => true) true Try.f8.params.toList args.toList ds p := hA0
  rw [Try.params8] at hA hval
  obtain ⟨v0, vs0, d0, ds0, p0, q0, hargs, rfl, rfl, h0, r0⟩ := trodAll_cons hA
  obtain ⟨rfl, rfl, rfl⟩ := trodAll_nil r0
  obtain rfl : args = #[v0] := by cases args; simp_all
  obtain ⟨rfl, rfl⟩ := trodVars_none hV
  have k0 := h0
  have lt0 : ∀ x ∈ p0, x.block < W.heap.size := by obtain ⟨m, hm⟩ := k0; exact DataW.trod_lt m _ _ _ hm
  obtain ⟨ia0, il0, ic0, pa0, pl0, pc0, G0, rfl, hG0⟩ := open_graph (hval 0 25 v0 rfl rfl) h0
  clear hA0 hval0
  refine (walk W ia0 il0 ic0 pa0 pl0 pc0 G0 hG0).mono fun e W' ⟨he, bel⟩ => ?_
  subst he
  exact ⟨_, rfl, _, _, _, [], _, [], hW', trodAll_mk1 (shut_bool Try.underlying4 _), (trodAll_cons_mk (Below.trod laidOut (by kernel_rfl) (of_decide_eq_true (by kernel_rfl)) k0 bel lt0) trodAll_mk0), rfl, bel.frame _, fun h => by cases h⟩

theorem over : Rows.graphEccentricitiesRow.holds Try.pinned (OpenSpec.ofChange Rows.graphEccentricitiesSpec) :=
  OpenClaim.holds_of_wide 8 Try.f8 rfl rfl rfl rfl rfl rfl rfl ⟨rfl, rfl, rfl, rfl, rfl⟩ rfl rfl rfl rfl rfl (by kernel_rfl) Try.func8 (by kernel_rfl)
    (of_decide_eq_true (by kernel_rfl)) (by unfold Func.isWrapper; first | (rw [if_pos (by decide +kernel)]; kernel_rfl) | (rw [if_neg (by decide +kernel)]; exact ⟨rfl, rfl⟩))
    (fun os started H enc _ => lifted os started H enc)

theorem proved : Rows.GraphEccentricitiesSaid := over
end Go.Proofs.Ytdclfhekmgnaiaa.lawGraphEccentricities
