/- A connected graph has at least the links of a tree, and a tree of two or more nodes has two leaves. No conditions: every input. -/
import Derived.Test.YtdclfhekmgnaiaaTree
import Derived.Test.YtdclfhekmgnaiaaLaw1
import Derived.OpenShut
import Derived.ChangeOld
import Derived.Deep.RegionHeld3
namespace Go.Proofs.Ytdclfhekmgnaiaa.lawGraphTreesHaveLeaves
open Go.ChangeShapes Go.WideShapes Go.ChangeAt Go.RowKit
set_option linter.unusedVariables false

theorem deg_eq {G : Gr} (hG : ValidG G) {v : Nat} (hv : v < G.ps.length) : degF G v = (rowA G.ps v).length := by
  unfold degF
  rw [if_pos ⟨validB_mk hG, inB_mk (by omega)⟩, Int.toNat_natCast]

set_option maxRecDepth 100000 in
set_option maxHeartbeats 2000000 in
theorem walk (w : World) (ia : Option Addr) (il ic : Nat) (pa : Option Addr) (pl pc : Nat) (G : Gr) (hG : GraphAt w ia il pa pl G) :
    Calls Try.prog 10 #[.agg #[.slice ia il ic, .slice pa pl pc]] w fun e w' => e = .returned (.bool true) ∧ Below w.heap.size w w' := by
  have Hpl := Lib.hid hG.pl
  cases hf : fairB G with
  | false =>
    go_enter Try.func10, Try.ntmps10
    go_wp2_with (first | (go_at_call 36; refine (fair_any _ _ _ _ _ _ G _ (hG.alloc _)).mono ?_; rintro e w1 ⟨rfl, hb1⟩) | (go_at_call 12; refine (awake_any _).mono ?_; rintro e w2 ⟨rfl, hb2⟩))
    go_ret
    exact ⟨rfl, (((Below.refl _ _).alloc (Nat.le_refl _) _).trans (hb1.mono (by simp))).trans (hb2.mono (Nat.le_trans (by simp) hb1.size))⟩
  | true =>
    have HV := Lib.hid (fairB_iff.1 hf).2
    have hp1 : 1 ≤ pl := by have := HV.out.pos; have := Hpl.out; omega
    have hp24 : pl ≤ 24 := by have := HV.out.le; have := Hpl.out; omega
    have hn : nodesF G = pl := by unfold nodesF; rw [validB_mk HV.out, Hpl.out]; rfl
    obtain ⟨m, hmd⟩ : ∃ m : Nat, (allLinks G G.ps.length).length = m := ⟨_, rfl⟩
    have hm : linksF G = m := by unfold linksF; rw [validB_mk HV.out, hmd]; rfl
    have hm2 : m ≤ 576 := by have := (linksF_le G).2.2.2; omega
    have HT1 := Lib.hid (fun h : connB G = true => (hmd ▸ tree_le h : G.ps.length - 1 ≤ m))
    have HT2 := Lib.hid (fun (h : connB G = true) (h1 : 1 < G.ps.length) (h2 : m = G.ps.length - 1) => leaves_two h h1 (by rw [hmd, h2]))
    have Ht := Lib.hid (show treeB G = (connB G && ((m : Int) == (pl : Int) - 1)) from by unfold treeB; rw [hn, hm])
    clear hmd
    go_enter Try.func10, Try.ntmps10
    go_wp2_with (first | (go_at_call 36; refine (fair_any _ _ _ _ _ _ G _ (hG.alloc _)).mono ?_; rintro e w1 ⟨rfl, hb1⟩; have hbx : Below (w.heap.size + 1) (w.alloc (.cells #[.slice ia il ic, .slice pa pl pc] 25)) w1 := hb1.mono (by simp); have hx10 : w1.cell? ⟨w.heap.size, 0, none⟩ = some (.slice ia il ic) := boxed hbx 0; have hx11 : w1.cell? ⟨w.heap.size, 1, none⟩ = some (.slice pa pl pc) := boxed hbx 1) | (go_at_call 13; refine (size_any _ _ _ _ _ _ G _ (hG.below (belBox hbx))).mono ?_; rintro e w2 ⟨rfl, hb2⟩; rw [hn, hm]; have hbel0 := hbx.trans (hb2.mono (Nat.le_trans (by simp) hbx.size))))
    clear hb1 hx10 hx11 hb2
    go_loopw [5, 6] (fun f t wr => ∃ (v : Nat), v ≤ pl ∧ f = .int .i64 (leaves G v) ∧ t = .int .i64 v ∧ leaves G v ≤ v ∧ Below (w.heap.size + 1) (w.alloc (.cells #[.slice ia il ic, .slice pa pl pc] 25)) wr) (fun _ t _ => pl - (intOf t).toNat)
    case atStart => exact ⟨0, Nat.zero_le _, rfl, rfl, Nat.le_refl _, hbel0⟩
    case round =>
      obtain ⟨v, hv, rfl, rfl, hle, hbel⟩ := hrel
      have hb0 : wr.cell? ⟨w.heap.size, 0, none⟩ = some (.slice ia il ic) := boxed hbel 0
      have hb1 : wr.cell? ⟨w.heap.size, 1, none⟩ = some (.slice pa pl pc) := boxed hbel 1
      by_cases hlt : v < pl
      · have hdg := deg_eq HV.out (v := v) (by have := Hpl.out; omega)
        by_cases h1 : (rowA G.ps v).length = 1
        · have hq : (((rowA G.ps v).length : Int) == 1) = true := by simp; omega
          have Hl : Hid (leaves G (v + 1) = leaves G v + 1) := Lib.hid (by rw [leaves, if_pos h1])
          clear h1
          go_wp2_with (go_at_call 17; refine (degree_any _ _ _ _ _ _ G v _ (hG.below (belBox hbel))).mono ?_; rintro e w3 ⟨rfl, hb3⟩; rw [hdg])
          go_roundw
          case rel => exact ⟨v + 1, by omega, by rw [Hl.out]; go_num, by go_num, by rw [Hl.out]; omega, hbel.trans (hb3.mono (Nat.le_trans (by simp) hbel.size))⟩
          case measure => simp [intOf]; omega
        · have hq : (((rowA G.ps v).length : Int) == 1) = false := by simp; omega
          have Hl : Hid (leaves G (v + 1) = leaves G v) := Lib.hid (by rw [leaves, if_neg h1]; rfl)
          clear h1
          go_wp2_with (go_at_call 17; refine (degree_any _ _ _ _ _ _ G v _ (hG.below (belBox hbel))).mono ?_; rintro e w3 ⟨rfl, hb3⟩; rw [hdg])
          go_roundw
          case rel => exact ⟨v + 1, by omega, by rw [Hl.out], by go_num, by rw [Hl.out]; omega, hbel.trans (hb3.mono (Nat.le_trans (by simp) hbel.size))⟩
          case measure => simp [intOf]; omega
      · obtain rfl : v = pl := by omega
        have Hv := Hpl
        have hz1 : ((v : Int) == v) = true := by simp
        generalize hlv : leaves G v = l at *
        have HL2 := Lib.hid (fun (h : connB G = true) (h1 : 1 < v) (h2 : m = v - 1) => (by rw [← hlv, Hv.out]; exact HT2.out h (by rw [← Hv.out]; exact h1) (by rw [← Hv.out]; exact h2) : 2 ≤ l))
        have HL1 := Lib.hid (fun h : connB G = true => (by rw [Hv.out]; exact HT1.out h : v - 1 ≤ m))
        clear hlv HT1 HT2 hlt
        cases hc : connB G
        · rw [hc] at Ht
          have htr : treeB G = false := Ht.out
          go_wp2_with (first | (go_at_call 28; refine (connected_any _ _ _ _ _ _ G _ (hG.below (belBox hbel))).mono ?_; rintro e w4 ⟨rfl, hb4⟩; rw [hc]; have hbel4 := hbel.trans (hb4.mono (Nat.le_trans (by simp) hbel.size)); have hx40 : w4.cell? ⟨w.heap.size, 0, none⟩ = some (.slice ia il ic) := boxed hbel4 0; have hx41 : w4.cell? ⟨w.heap.size, 1, none⟩ = some (.slice pa v pc) := boxed hbel4 1) | (go_at_call 34; refine (tree_any _ _ _ _ _ _ G _ (hG.below (belBox hbel4))).mono ?_; rintro e w5 ⟨rfl, hb5⟩; rw [htr]; have hbel5 := hbel4.trans (hb5.mono (Nat.le_trans (by simp) hbel4.size))) | (go_at_call 12; refine (awake_any _).mono ?_; rintro e w6 ⟨rfl, hb6⟩; have hbel6 := hbel5.trans (hb6.mono (Nat.le_trans (by simp) hbel5.size)); have hx60 : w6.cell? ⟨w.heap.size, 0, none⟩ = some (.slice ia il ic) := boxed hbel6 0; have hx61 : w6.cell? ⟨w.heap.size, 1, none⟩ = some (.slice pa v pc) := boxed hbel6 1))
          go_ret
          exact ⟨rfl, belBox hbel6⟩
        · rw [hc] at Ht
          have hm1 := HL1.out hc
          have d1 : decide ((m : Int) < (v : Int) - 1) = false := by simp; omega
          by_cases hmv : m = v - 1
          · have htr : treeB G = true := by rw [Ht.out]; simp; omega
            have d2 : ((m : Int) != (v : Int) - 1) = false := by simp; omega
            by_cases hv1 : 1 < v
            · have hl2 := HL2.out hc hv1 hmv
              have d3 : decide (1 < (v : Int)) = true := by simp; omega
              have d4 : decide ((l : Int) < 2) = false := by simp; omega
              go_wp2_with (first | (go_at_call 28; refine (connected_any _ _ _ _ _ _ G _ (hG.below (belBox hbel))).mono ?_; rintro e w4 ⟨rfl, hb4⟩; rw [hc]; have hbel4 := hbel.trans (hb4.mono (Nat.le_trans (by simp) hbel.size)); have hx40 : w4.cell? ⟨w.heap.size, 0, none⟩ = some (.slice ia il ic) := boxed hbel4 0; have hx41 : w4.cell? ⟨w.heap.size, 1, none⟩ = some (.slice pa v pc) := boxed hbel4 1) | (go_at_call 34; refine (tree_any _ _ _ _ _ _ G _ (hG.below (belBox hbel4))).mono ?_; rintro e w5 ⟨rfl, hb5⟩; rw [htr]; have hbel5 := hbel4.trans (hb5.mono (Nat.le_trans (by simp) hbel4.size))) | (go_at_call 12; refine (awake_any _).mono ?_; rintro e w6 ⟨rfl, hb6⟩; have hbel6 := hbel5.trans (hb6.mono (Nat.le_trans (by simp) hbel5.size)); have hx60 : w6.cell? ⟨w.heap.size, 0, none⟩ = some (.slice ia il ic) := boxed hbel6 0; have hx61 : w6.cell? ⟨w.heap.size, 1, none⟩ = some (.slice pa v pc) := boxed hbel6 1))
              go_ret
              exact ⟨rfl, belBox hbel6⟩
            · have d3 : decide (1 < (v : Int)) = false := by simp; omega
              go_wp2_with (first | (go_at_call 28; refine (connected_any _ _ _ _ _ _ G _ (hG.below (belBox hbel))).mono ?_; rintro e w4 ⟨rfl, hb4⟩; rw [hc]; have hbel4 := hbel.trans (hb4.mono (Nat.le_trans (by simp) hbel.size)); have hx40 : w4.cell? ⟨w.heap.size, 0, none⟩ = some (.slice ia il ic) := boxed hbel4 0; have hx41 : w4.cell? ⟨w.heap.size, 1, none⟩ = some (.slice pa v pc) := boxed hbel4 1) | (go_at_call 34; refine (tree_any _ _ _ _ _ _ G _ (hG.below (belBox hbel4))).mono ?_; rintro e w5 ⟨rfl, hb5⟩; rw [htr]; have hbel5 := hbel4.trans (hb5.mono (Nat.le_trans (by simp) hbel4.size))) | (go_at_call 12; refine (awake_any _).mono ?_; rintro e w6 ⟨rfl, hb6⟩; have hbel6 := hbel5.trans (hb6.mono (Nat.le_trans (by simp) hbel5.size)); have hx60 : w6.cell? ⟨w.heap.size, 0, none⟩ = some (.slice ia il ic) := boxed hbel6 0; have hx61 : w6.cell? ⟨w.heap.size, 1, none⟩ = some (.slice pa v pc) := boxed hbel6 1))
              go_ret
              exact ⟨rfl, belBox hbel6⟩
          · have htr : treeB G = false := by rw [Ht.out]; simp; omega
            go_wp2_with (first | (go_at_call 28; refine (connected_any _ _ _ _ _ _ G _ (hG.below (belBox hbel))).mono ?_; rintro e w4 ⟨rfl, hb4⟩; rw [hc]; have hbel4 := hbel.trans (hb4.mono (Nat.le_trans (by simp) hbel.size)); have hx40 : w4.cell? ⟨w.heap.size, 0, none⟩ = some (.slice ia il ic) := boxed hbel4 0; have hx41 : w4.cell? ⟨w.heap.size, 1, none⟩ = some (.slice pa v pc) := boxed hbel4 1) | (go_at_call 34; refine (tree_any _ _ _ _ _ _ G _ (hG.below (belBox hbel4))).mono ?_; rintro e w5 ⟨rfl, hb5⟩; rw [htr]; have hbel5 := hbel4.trans (hb5.mono (Nat.le_trans (by simp) hbel4.size))) | (go_at_call 12; refine (awake_any _).mono ?_; rintro e w6 ⟨rfl, hb6⟩; have hbel6 := hbel5.trans (hb6.mono (Nat.le_trans (by simp) hbel5.size)); have hx60 : w6.cell? ⟨w.heap.size, 0, none⟩ = some (.slice ia il ic) := boxed hbel6 0; have hx61 : w6.cell? ⟨w.heap.size, 1, none⟩ = some (.slice pa v pc) := boxed hbel6 1))
            go_ret
            exact ⟨rfl, belBox hbel6⟩

set_option maxRecDepth 100000 in
theorem lifted (os : Os) (started : os.Started) (H : Type) (enc : TypeId × Value → H) :
    ReturnsInHanded {} Try.checked os 10 .any (Rows.graphTreesHaveLeavesSpec.pre6 enc Try.prog Try.f10 Rows.graphTreesHaveLeavesRow.domain false) (Rows.graphTreesHaveLeavesSpec.post enc Try.prog Try.f10 false true false false) := by
  refine returnsInHanded_of_change (C := Try.checked) own started (by kernel_rfl) Try.func10
    (ChangeSpec.witness6 (enc := enc) (C := Try.checked) false ⟨#[], #[.agg #[.slice none 0 0, .slice none 0 0]], []⟩ 8 (by kernel_rfl) (by kernel_rfl) (by kernel_rfl) (by kernel_rfl)) ?_
  intro W base args ds gs before hval0 hW hcnd _
  have hval : ∀ (j : Nat) t v, Try.f10.params[j]? = some t → args[j]? = some v → Value.okWide Try.prog W .any base t v := hval0
  have hW' := hW
  obtain ⟨p, q, hA0, hV, rfl, hfz, hnd⟩ := hW
  have hA : DataW.TrodAll enc Try.prog W 0 (fun _ => true) true Try.f10.params.toList args.toList ds p := hA0
  rw [Try.params10] at hA hval
  obtain ⟨v0, vs0, d0, ds0, p0, q0, hargs, rfl, rfl, h0, r0⟩ := trodAll_cons hA
  obtain ⟨rfl, rfl, rfl⟩ := trodAll_nil r0
  obtain rfl : args = #[v0] := by cases args; simp_all
  obtain ⟨rfl, rfl⟩ := trodVars_none hV
  have k0 := h0
  have lt0 : ∀ x ∈ p0, x.block < W.heap.size := by obtain ⟨m, hm⟩ := k0; exact DataW.trod_lt m _ _ _ hm
  obtain ⟨ia0, il0, ic0, pa0, pl0, pc0, G0, rfl, hG0⟩ := open_graph (hval 0 25 v0 rfl rfl) h0
  clear hA0 hval0
  refine (walk W ia0 il0 ic0 pa0 pl0 pc0 G0 hG0).mono fun e W' ⟨he, bel⟩ => ?_
  subst he
  exact ⟨_, rfl, _, _, _, [], _, [], hW', trodAll_mk1 (shut_bool Try.underlying4 _), (trodAll_cons_mk (Below.trod laidOut (by kernel_rfl) (of_decide_eq_true (by kernel_rfl)) k0 bel lt0) trodAll_mk0), rfl, bel.frame _, fun h => by cases h⟩

theorem over : Rows.graphTreesHaveLeavesRow.holds Try.pinned (OpenSpec.ofChange Rows.graphTreesHaveLeavesSpec) :=
  OpenClaim.holds_of_wide 10 Try.f10 rfl rfl rfl rfl rfl rfl rfl ⟨rfl, rfl, rfl, rfl, rfl⟩ rfl rfl rfl rfl rfl (by kernel_rfl) Try.func10 (by kernel_rfl)
    (of_decide_eq_true (by kernel_rfl)) (by unfold Func.isWrapper; first | (rw [if_pos (by decide +kernel)]; kernel_rfl) | (rw [if_neg (by decide +kernel)]; exact ⟨rfl, rfl⟩))
    (fun os started H enc _ => lifted os started H enc)

theorem proved : Rows.GraphTreesHaveLeavesSaid := over
end Go.Proofs.Ytdclfhekmgnaiaa.lawGraphTreesHaveLeaves
