/- Distances of neighbours differ by at most 1, the distance is 0 exactly at the first node, and a node at a positive distance has a neighbour that is one step nearer. No conditions: every input. -/
import Derived.Test.YtdclfhekmgnaiaaGraph8
import Derived.OpenShut
import Derived.ChangeOld
namespace Go.Proofs.Ytdclfhekmgnaiaa.lawGraphDistancesAreSteps
open Go.ChangeShapes Go.WideShapes Go.ChangeAt Go.RowKit
set_option linter.unusedVariables false

set_option maxRecDepth 100000 in
set_option maxHeartbeats 2000000 in
theorem walk (w : World) (ia : Option Addr) (il ic : Nat) (pa : Option Addr) (pl pc : Nat) (G : Gr) (hG : GraphAt w ia il pa pl G) (a1 : Int) (wf1 : (Lit.int .i64 a1).wf = true) :
    Calls Try.prog 6 #[.agg #[.slice ia il ic, .slice pa pl pc], .int .i64 a1] w fun e w' => e = .returned (.bool true) ∧ Below w.heap.size w w' := by
  have Hpl := Lib.hid hG.pl
  cases hf : fairB G with
  | false =>
    go_enter Try.func6, Try.ntmps6
    go_wp2_with (first | (go_at_call 36; refine (fair_any _ _ _ _ _ _ G _ (hG.alloc _)).mono ?_; rintro e w1 ⟨rfl, hb1⟩) | (go_at_call 12; refine (awake_any _).mono ?_; rintro e w2 ⟨rfl, hb2⟩))
    go_ret
    exact ⟨rfl, (((Below.refl _ _).alloc (Nat.le_refl _) _).trans (hb1.mono (by simp))).trans (hb2.mono (Nat.le_trans (by simp) hb1.size))⟩
  | true =>
    have HV := Lib.hid (fairB_iff.1 hf).2
    have hp1 : 1 ≤ pl := by have := HV.out.pos; have := Hpl.out; omega
    have hp24 : pl ≤ 24 := by have := HV.out.le; have := Hpl.out; omega
    obtain ⟨s, hs, hsl⟩ := mod_nat a1 hp1
    have hsG : s < G.ps.length := by have := Hpl.out; omega
    have hi64 := wf_I64 wf1
    obtain ⟨pb, po, rfl, hpb, hrow⟩ := hG.ports.row (by have := Hpl.out; omega)
    have Hrow := Lib.hid hrow
    have Hi64 := Lib.hid hi64
    have hq : ((pl : Int) != pl) = false := by simp
    clear hrow hi64 wf1
    go_enter Try.func6, Try.ntmps6
    go_wp2_with (first | (go_at_call 36; refine (fair_any _ _ _ _ _ _ G _ (hG.alloc _)).mono ?_; rintro e w1 ⟨rfl, hb1⟩; have hbx : Below (w.heap.size + 1) (w.alloc (.cells #[.slice ia il ic, .slice (some ⟨pb, po, none⟩) pl pc] 25)) w1 := hb1.mono (by simp); have hx10 : w1.cell? ⟨w.heap.size, 0, none⟩ = some (.slice ia il ic) := boxed hbx 0; have hx11 : w1.cell? ⟨w.heap.size, 1, none⟩ = some (.slice (some ⟨pb, po, none⟩) pl pc) := boxed hbx 1) | (go_at_call 37; refine (mod_any _ _ _ Hi64.out hp1 (by omega)).mono ?_; rintro e w2 ⟨rfl, rfl⟩; rw [hs]))
    refine (distancesOf_any _ _ _ _ _ _ G s _ (hG.below (belBox hbx)) HV.out hsl).mono ?_
    rintro e w3 ⟨⟨fb, rfl, hfb, hM⟩, hb3⟩
    have hbx3 := hbx.trans (hb3.mono (Nat.le_trans (by simp) hbx.size))
    have hx30 : w3.cell? ⟨w.heap.size, 0, none⟩ = some (.slice ia il ic) := boxed hbx3 0
    have hx31 : w3.cell? ⟨w.heap.size, 1, none⟩ = some (.slice (some ⟨pb, po, none⟩) pl pc) := boxed hbx3 1
    have HM := Lib.hid hM
    clear hM hx10 hx11 hb1 hb3
    have hlow : ∀ v, v < pl → -1 ≤ distF G s v ∧ distF G s v < 24 := fun v hv => ⟨distF_low G s v, by have := distF_lt HV.out (s := s) (v := v) hsG; have := HV.out.le; omega⟩
    have Hlow := Lib.hid hlow
    clear hlow
    go_wp2_with fail
    go_loop [6] (fun t => ∃ v : Nat, v ≤ pl ∧ t = .int .i64 v) (fun t => pl - (intOf t).toNat)
    case atStart => exact ⟨0, Nat.zero_le _, rfl⟩
    case round =>
      obtain ⟨v, hv, rfl⟩ := hrel
      by_cases hlt : v < pl
      · have hvG : v < G.ps.length := by have := Hpl.out; omega
        obtain ⟨la, lc, hcl, hL⟩ := Hrow.out v hvG
        have hcl := ((belBox hbx3).cell (p := ⟨pb, po + v, none⟩) hpb).trans hcl
        have HL := Lib.hid hL
        have hlm := hL.size
        unfold maxLen at hlm
        clear hL
        have hFv := (HM.out.2 v hlt).1
        have hy := Hlow.out v hlt
        have Hz := Lib.hid (distF_zero (G := G) (s := s) (v := v))
        have HA := Lib.hid (fun (u : Nat) (ha : Adj G v u) => (⟨distF_adj HV.out hvG ha, distF_adj HV.out (ha.lt HV.out hvG).1 (ha.symm HV.out hvG)⟩ : (0 ≤ distF G s v → 0 ≤ distF G s u ∧ distF G s u ≤ distF G s v + 1) ∧ (0 ≤ distF G s u → 0 ≤ distF G s v ∧ distF G s v ≤ distF G s u + 1)))
        have HN := Lib.hid (distF_near HV.out (s := s) (v := v) hsG)
        generalize hyy : distF G s v = y at *
        have Hyy := Lib.hid hyy
        clear hyy
        obtain ⟨hy1, hy2⟩ := hy
        have d1 : decide (y < -1) = false := by simp; omega
        have d2 : (y == 0) = decide (v = s) := by
          rw [Bool.eq_iff_iff]; simp; exact Hz.out
        have d3 : ((v : Int) == s) = decide (v = s) := by
          rw [Bool.eq_iff_iff, beq_iff_eq, decide_eq_true_iff]; omega
        have d4 : ∀ b : Bool, (b != b) = false := fun b => by cases b <;> rfl
        by_cases hvs : v = s
        all_goals
          first | (have d5 : decide (v = s) = true := decide_eq_true hvs) | (have d5 : decide (v = s) = false := decide_eq_false hvs)
          rw [d5] at d2 d3
          have Hvs := Lib.hid hvs
          clear hvs d4 d5
          go_wp2
          go_loop [7, 8] (fun f t => ∃ (i : Nat) (b : Bool), t = .int .i64 i ∧ i ≤ (rowA G.ps v).length ∧ f = .bool b ∧ ∀ j, j < i → ∀ u : Nat, toA (rowA G.ps v) j = u → distF G s u = y - 1 → b = true) (fun _ t => (rowA G.ps v).length - (intOf t).toNat)
          case atStart => exact ⟨0, false, rfl, Nat.zero_le _, rfl, fun j hj => absurd hj (by omega)⟩
          case round =>
            obtain ⟨i, fb', rfl, hi, rfl, hn⟩ := hrel
            have Hn := Lib.hid hn
            clear hn
            by_cases hli : i < (rowA G.ps v).length
            · obtain ⟨lb, lo, rfl, hlb, hcs⟩ := HL.out.row (by omega)
              have hck := ((belBox hbx3).cell (p := ⟨lb, lo + i * 2, none⟩) hlb).trans (hcs i hli).1
              clear hcs
              have hok := HV.out.links v hvG i hli
              obtain ⟨u, hu⟩ : ∃ u : Nat, toA (rowA G.ps v) i = u := ⟨(toA (rowA G.ps v) i).toNat, by have := hok.1; omega⟩
              have hul : u < pl := by have := hok.1; have := Hpl.out; omega
              have hui : (u : Int) < pl := by omega
              rw [hu] at hck
              have hFu := (HM.out.2 u hul).1
              have hA := HA.out u ⟨i, hli, hu⟩
              have hx := Hlow.out u hul
              have Hu := Lib.hid hu
              clear hok hu
              generalize hxx : distF G s u = x at *
              have Hxx := Lib.hid hxx
              clear hxx
              obtain ⟨hx1, hx2⟩ := hx
              obtain ⟨hA1, hA2⟩ := hA
              have HX : Hid (∀ b : Bool, (fb' = true → b = true) → (x = y - 1 → b = true) → ∀ j, j < i + 1 → ∀ u : Nat, toA (rowA G.ps v) j = u → distF G s u = y - 1 → b = true) := Lib.hid (fun b h1 h2 j hj u' hu' hd => by
                rcases Nat.lt_or_ge j i with h | h
                · exact h1 (Hn.out j h u' hu' hd)
                · rw [show j = i by omega, Hu.out] at hu'
                  rw [← show u = u' by omega, Hxx.out] at hd
                  exact h2 hd)
              by_cases hy0 : y < 0
              · have hx0 : x = -1 := by by_cases h : 0 ≤ x <;> omega
                have hy0' : y = -1 := by omega
                subst hx0 hy0'
                have c1 : ((-1 : Int) == -1 - 1) = false := by decide
                clear hA1 hA2
                cases fb'
                all_goals
                  go_wp2
                  go_round
                  case rel => exact ⟨i + 1, _, by go_num, by omega, rfl, HX.out _ (by simp) (by decide)⟩
                  case measure => simp [intOf]; omega
              · have hx0 : 0 ≤ x ∧ x ≤ y + 1 := hA1 (by omega)
                have hy3 : y ≤ x + 1 := (hA2 hx0.1).2
                obtain ⟨hx3, hx4⟩ := hx0
                clear hA1 hA2
                have c1 : decide (x < 0) = false := by simp; omega
                have c2 : decide (y < 0) = false := by simp; omega
                have c3 : decide (1 < x - y) = false := by simp; omega
                have c4 : decide (1 < y - x) = false := by simp; omega
                by_cases hxy : x = y - 1
                · have c5 : (x == y - 1) = true := by simpa using hxy
                  have Hxy := Lib.hid hxy
                  clear hxy
                  cases fb'
                  all_goals
                    go_wp2
                    go_round
                    case rel => exact ⟨i + 1, true, by go_num, by omega, rfl, HX.out true (by simp) (by simp)⟩
                    case measure => simp [intOf]; omega
                · have c5 : (x == y - 1) = false := by simpa using hxy
                  have Hxy := Lib.hid hxy
                  clear hxy
                  cases fb'
                  · go_wp2
                    go_round
                    case rel => exact ⟨i + 1, false, by go_num, by omega, rfl, HX.out false (by simp) (fun h => absurd h Hxy.out)⟩
                    case measure => simp [intOf]; omega
                  · go_wp2
                    go_round
                    case rel => exact ⟨i + 1, true, by go_num, by omega, rfl, HX.out true (by simp) (by simp)⟩
                    case measure => simp [intOf]; omega
            · by_cases hy0 : 0 < y
              · have hfb' : fb' = true := by
                  obtain ⟨u, ⟨j, hj, e⟩, hd⟩ := HN.out hy0
                  exact Hn.out j (by omega) u e hd
                subst hfb'
                have c6 : decide (0 < y) = true := by simp; omega
                go_wp2
                go_round
                case rel => exact ⟨v + 1, by omega, by go_num⟩
                case measure => simp [intOf]; omega
              · have c6 : decide (0 < y) = false := by simp; omega
                go_wp2
                go_round
                case rel => exact ⟨v + 1, by omega, by go_num⟩
                case measure => simp [intOf]; omega
      · go_wp2_with (go_at_call 12; refine (awake_any _).mono ?_; rintro e w6 ⟨rfl, hb6⟩)
        go_ret
        exact ⟨rfl, (belBox hbx3).trans (hb6.mono (belBox hbx3).size)⟩

set_option maxRecDepth 100000 in
theorem lifted (os : Os) (started : os.Started) (H : Type) (enc : TypeId × Value → H) :
    ReturnsInHanded {} Try.checked os 6 .any (Rows.graphDistancesAreStepsSpec.pre6 enc Try.prog Try.f6 Rows.graphDistancesAreStepsRow.domain false) (Rows.graphDistancesAreStepsSpec.post enc Try.prog Try.f6 false true false false) := by
  refine returnsInHanded_of_change (C := Try.checked) own started (by kernel_rfl) Try.func6
    (ChangeSpec.witness6 (enc := enc) (C := Try.checked) false ⟨#[], #[.agg #[.slice none 0 0, .slice none 0 0], .int .i64 0], []⟩ 8 (by kernel_rfl) (by kernel_rfl) (by kernel_rfl) (by kernel_rfl)) ?_
  intro W base args ds gs before hval0 hW hcnd _
  have hval : ∀ (j : Nat) t v, Try.f6.params[j]? = some t → args[j]? = some v → Value.okWide Try.prog W .any base t v := hval0
  have hW' := hW
  obtain ⟨p, q, hA0, hV, rfl, hfz, hnd⟩ := hW
  have hA : DataW.TrodAll enc Try.prog W 0 (fun _ => true) true Try.f6.params.toList args.toList ds p := hA0
  rw [Try.params6] at hA hval
  obtain ⟨v0, vs0, d0, ds0, p0, q0, hargs, rfl, rfl, h0, r0⟩ := trodAll_cons hA
  obtain ⟨v1, vs1, d1, ds1, p1, q1, rfl, rfl, rfl, h1, r1⟩ := trodAll_cons r0
  obtain ⟨rfl, rfl, rfl⟩ := trodAll_nil r1
  obtain rfl : args = #[v0, v1] := by cases args; simp_all
  obtain ⟨rfl, rfl⟩ := trodVars_none hV
  have k0 := h0
  have lt0 : ∀ x ∈ p0, x.block < W.heap.size := by obtain ⟨m, hm⟩ := k0; exact DataW.trod_lt m _ _ _ hm
  obtain ⟨ia0, il0, ic0, pa0, pl0, pc0, G0, rfl, hG0⟩ := open_graph (hval 0 25 v0 rfl rfl) h0
  have k1 := h1
  have lt1 : ∀ x ∈ p1, x.block < W.heap.size := by obtain ⟨m, hm⟩ := k1; exact DataW.trod_lt m _ _ _ hm
  obtain ⟨a1, rfl, rfl, rfl, w1⟩ := open_int Try.underlying3 (hval 1 3 v1 rfl rfl) h1
  clear hA0 hval0
  refine (walk W ia0 il0 ic0 pa0 pl0 pc0 G0 hG0 a1 w1).mono fun e W' ⟨he, bel⟩ => ?_
  subst he
  exact ⟨_, rfl, _, _, _, [], _, [], hW', trodAll_mk1 (shut_bool Try.underlying4 _), (trodAll_cons_mk (Below.trod laidOut (by kernel_rfl) (of_decide_eq_true (by kernel_rfl)) k0 bel lt0) (trodAll_cons_mk (Below.trod laidOut (by kernel_rfl) (of_decide_eq_true (by kernel_rfl)) k1 bel lt1) trodAll_mk0)), rfl, bel.frame _, fun h => by cases h⟩

theorem over : Rows.graphDistancesAreStepsRow.holds Try.pinned (OpenSpec.ofChange Rows.graphDistancesAreStepsSpec) :=
  OpenClaim.holds_of_wide 6 Try.f6 rfl rfl rfl rfl rfl rfl rfl ⟨rfl, rfl, rfl, rfl, rfl⟩ rfl rfl rfl rfl rfl (by kernel_rfl) Try.func6 (by kernel_rfl)
    (of_decide_eq_true (by kernel_rfl)) (by unfold Func.isWrapper; first | (rw [if_pos (by decide +kernel)]; kernel_rfl) | (rw [if_neg (by decide +kernel)]; exact ⟨rfl, rfl⟩))
    (fun os started H enc _ => lifted os started H enc)

theorem proved : Rows.GraphDistancesAreStepsSaid := over
end Go.Proofs.Ytdclfhekmgnaiaa.lawGraphDistancesAreSteps
