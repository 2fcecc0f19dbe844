/- Back of a port, at the neighbour, leads back to the same port; where there is no port it is -1; Degree is the number of ports. No conditions: every input. -/
import Derived.Test.YtdclfhekmgnaiaaDist2
import Derived.OpenShut
import Derived.ChangeOld
import Derived.Deep.RegionHeld3
namespace Go.Proofs.Ytdclfhekmgnaiaa.lawGraphBackIsMutual
open Go.ChangeShapes Go.WideShapes Go.ChangeAt Go.RowKit
set_option linter.unusedVariables false

theorem back_none {G : Gr} {v p : Int} (h : ¬ (0 ≤ p ∧ p < (rowA G.ps v.toNat).length)) : backF G v p = -1 := by
  unfold backF
  rw [if_neg (fun h' => h ⟨h'.2.2.1, h'.2.2.2⟩)]
theorem back_eq {G : Gr} (hG : ValidG G) {v i u : Nat} (hv : v < G.ps.length) (hi : i < (rowA G.ps v).length) (hu : toA (rowA G.ps v) i = u) : backF G v i = portF (rowA G.ps u) v := by
  unfold backF
  rw [if_pos ⟨validB_mk hG, inB_mk (by omega), by omega, by rw [Int.toNat_natCast]; omega⟩, Int.toNat_natCast, Int.toNat_natCast, hu, Int.toNat_natCast]
/-- the port back: there is one, it leads to v, and from there back to i -/
theorem back_ok {G : Gr} (hG : ValidG G) {v i u : Nat} (hv : v < G.ps.length) (hi : i < (rowA G.ps v).length) (hu : toA (rowA G.ps v) i = u) :
    ∃ k : Nat, backF G v i = k ∧ k < (rowA G.ps u).length ∧ toA (rowA G.ps u) k = v ∧ backF G u k = i := by
  have hul : u < G.ps.length := by have := hG.links v hv i hi; unfold LinkOk at this; omega
  have hm := hG.mate v hv i hi
  unfold MateOk at hm
  rw [hu, Int.toNat_natCast] at hm
  rcases portF_cases (rowA G.ps u) v with ⟨hp, _⟩ | ⟨k, hk, hp, hto, _⟩
  · rw [hp] at hm; omega
  · refine ⟨k, by rw [back_eq hG hv hi hu, hp], hk, hto, ?_⟩
    rw [back_eq hG hul hk hto]
    exact portF_found hi hu fun j hj e => (hG.links v hv i hi).2.2.2 j hj (by rw [e, hu])
theorem deg_eq {G : Gr} (hG : ValidG G) {v : Nat} (hv : v < G.ps.length) : degF G v = (rowA G.ps v).length := by
  unfold degF
  rw [if_pos ⟨validB_mk hG, inB_mk (by omega)⟩, Int.toNat_natCast]

theorem bcell {W w1 : World} (hb : Below W.heap.size W w1) : (∀ b o, b < W.heap.size → w1.cell? ⟨b, o, none⟩ = W.cell? ⟨b, o, none⟩) ∧ W.heap.size ≤ w1.heap.size :=
  ⟨fun b o h => hb.cell (p := ⟨b, o, none⟩) h, hb.size⟩

set_option maxRecDepth 100000 in
set_option maxHeartbeats 2000000 in
theorem walk (w : World) (ia : Option Addr) (il ic : Nat) (pa : Option Addr) (pl pc : Nat) (G : Gr) (hG : GraphAt w ia il pa pl G) :
    Calls Try.prog 5 #[.agg #[.slice ia il ic, .slice pa pl pc]] w fun e w' => e = .returned (.bool true) ∧ Below w.heap.size w w' := by
  have Hpl := Lib.hid hG.pl
  cases hf : fairB G with
  | false =>
    go_enter Try.func5, Try.ntmps5
    go_wp2_with (first | (go_at_call 36; refine (fair_any _ _ _ _ _ _ G _ (hG.alloc _)).mono ?_; rintro e w1 ⟨rfl, hb1⟩) | (go_at_call 12; refine (awake_any _).mono ?_; rintro e w2 ⟨rfl, hb2⟩))
    go_ret
    exact ⟨rfl, (((Below.refl _ _).alloc (Nat.le_refl _) _).trans (hb1.mono (by simp))).trans (hb2.mono (Nat.le_trans (by simp) hb1.size))⟩
  | true =>
    have HV := Lib.hid (fairB_iff.1 hf).2
    have hp1 : 1 ≤ pl := by have := HV.out.pos; have := Hpl.out; omega
    have hp24 : pl ≤ 24 := by have := HV.out.le; have := Hpl.out; omega
    obtain ⟨pb, po, rfl, hpb, hrow⟩ := hG.ports.row (by have := Hpl.out; omega)
    have Hrow := Lib.hid hrow
    clear hrow
    go_enter Try.func5, Try.ntmps5
    go_wp2_with (go_at_call 36; refine (fair_any _ _ _ _ _ _ G _ (hG.alloc _)).mono ?_; rintro e w1 ⟨rfl, hb1⟩; have hbx : Below (w.heap.size + 1) (w.alloc (.cells #[.slice ia il ic, .slice (some ⟨pb, po, none⟩) pl pc] 25)) w1 := hb1.mono (by simp); have hx10 : w1.cell? ⟨w.heap.size, 0, none⟩ = some (.slice ia il ic) := boxed hbx 0; have hx11 : w1.cell? ⟨w.heap.size, 1, none⟩ = some (.slice (some ⟨pb, po, none⟩) pl pc) := boxed hbx 1)
    clear hx10 hx11 hb1
    go_loopw [3] (fun t wr => ∃ v : Nat, v ≤ pl ∧ t = .int .i64 v ∧ Below (w.heap.size + 1) (w.alloc (.cells #[.slice ia il ic, .slice (some ⟨pb, po, none⟩) pl pc] 25)) wr) (fun t _ => pl - (intOf t).toNat)
    case atStart => exact ⟨0, Nat.zero_le _, rfl, hbx⟩
    case round =>
      clear hbx
      obtain ⟨v, hv, rfl, hbel⟩ := hrel
      have hb0 : wr.cell? ⟨w.heap.size, 0, none⟩ = some (.slice ia il ic) := boxed hbel 0
      have hb1 : wr.cell? ⟨w.heap.size, 1, none⟩ = some (.slice (some ⟨pb, po, none⟩) pl pc) := boxed hbel 1
      by_cases hlt : v < pl
      · obtain ⟨la, lc, hcl0, hL⟩ := Hrow.out v (by have := Hpl.out; omega)
        have HCL := Lib.hid hcl0
        have HL := Lib.hid hL
        have hlm := hL.size
        unfold maxLen at hlm
        clear hcl0 hL
        have hvG : v < G.ps.length := by have := Hpl.out; omega
        go_wp2
        clear hb0 hb1
        obtain ⟨wo, rfl⟩ : ∃ wo : World, wo = wr := ⟨_, rfl⟩
        go_loopw [4] (fun t wr => ∃ i : Nat, i ≤ (rowA G.ps v).length ∧ t = .int .i64 i ∧ Below (w.heap.size + 1) (w.alloc (.cells #[.slice ia il ic, .slice (some ⟨pb, po, none⟩) pl pc] 25)) wr) (fun t _ => (rowA G.ps v).length - (intOf t).toNat)
        case atStart => exact ⟨0, Nat.zero_le _, rfl, hbel⟩
        case round =>
          clear hbel
          obtain ⟨i, hi, rfl, hbel⟩ := hrel
          have hb0 : wr.cell? ⟨w.heap.size, 0, none⟩ = some (.slice ia il ic) := boxed hbel 0
          have hb1 : wr.cell? ⟨w.heap.size, 1, none⟩ = some (.slice (some ⟨pb, po, none⟩) pl pc) := boxed hbel 1
          have hcl := ((belBox hbel).cell (p := ⟨pb, po + v, none⟩) hpb).trans HCL.out
          by_cases hli : i < (rowA G.ps v).length
          · obtain ⟨lb, lo, rfl, hlb, hcs⟩ := HL.out.row (by omega)
            have hck := ((belBox hbel).cell (p := ⟨lb, lo + i * 2, none⟩) hlb).trans (hcs i hli).1
            clear hcs
            have hok := HV.out.links v hvG i hli
            obtain ⟨u, hu⟩ : ∃ u : Nat, toA (rowA G.ps v) i = u := ⟨(toA (rowA G.ps v) i).toNat, by have := hok.1; omega⟩
            have hul : u < pl := by have := hok.1; have := Hpl.out; omega
            rw [hu] at hck
            obtain ⟨k, hk1, hk2, hk3, hk4⟩ := back_ok HV.out hvG hli hu
            clear hok hu
            obtain ⟨lu, luc, hcu, hLu⟩ := Hrow.out u (by have := Hpl.out; omega)
            obtain ⟨ub, uo, rfl, hub, hus⟩ := hLu.row (by omega)
            have huk := (hus k hk2).1
            rw [hk3] at huk
            have HCU := Lib.hid hcu
            have HUK := Lib.hid huk
            have HK4 := Lib.hid hk4
            clear hus hcu hLu huk hk3 hk4
            have e0 : decide ((k : Int) < 0) = false := by simp
            have e1 : (k : Int) < (rowA G.ps u).length := by omega
            have e2 : ((v : Int) != v) = false := by simp
            have e3 : ((i : Int) != i) = false := by simp
            go_wp2_with fail
            refine (back_any _ _ _ _ _ _ G v i _ (hG.below (belBox hbel))).mono ?_
            rintro e w2 ⟨rfl, hb2⟩
            rw [hk1]
            have hbx2 := hbel.trans (hb2.mono (Nat.le_trans (by simp) hbel.size))
            have hx20 : w2.cell? ⟨w.heap.size, 0, none⟩ = some (.slice ia il ic) := boxed hbx2 0
            have hx21 : w2.cell? ⟨w.heap.size, 1, none⟩ = some (.slice (some ⟨pb, po, none⟩) pl pc) := boxed hbx2 1
            have hx22 := ((belBox hbx2).cell (p := ⟨pb, po + u, none⟩) hpb).trans HCU.out
            have hx23 := ((belBox hbx2).cell (p := ⟨ub, uo + k * 2, none⟩) hub).trans HUK.out
            clear hb0 hb1 hcl hck hb2
            go_wp2_with fail
            refine (back_any _ _ _ _ _ _ G u k _ (hG.below (belBox hbx2))).mono ?_
            rintro e w3 ⟨rfl, hb3⟩
            rw [HK4.out]
            have hbx3 := hbx2.trans (hb3.mono (Nat.le_trans (by simp) hbx2.size))
            clear hx20 hx21 hx22 hx23 hb3
            go_wp2_with fail
            go_roundw
            case rel => exact ⟨i + 1, by omega, by go_num, hbx3⟩
            case measure => simp [intOf]; omega
          · have hn1 : backF G v (rowA G.ps v).length = -1 := back_none (by rw [Int.toNat_natCast]; omega)
            have hn2 : backF G v (-1) = -1 := back_none (by omega)
            have hn3 := deg_eq HV.out hvG
            have HG := Lib.hid (fun W (h : Below w.heap.size w W) => hG.below h)
            have e1 : ((-1 : Int) != -1) = false := by decide
            have e2 : (((rowA G.ps v).length : Int) != (rowA G.ps v).length) = false := by simp
            have hz1 : w.heap.size < wr.heap.size := by have := hbel.size; simp at this; omega
            go_wp2_with fail
            go_region_held3 (fun w' => w'.cell? ⟨w.heap.size, 0, none⟩ = some (.slice ia il ic) ∧ w'.cell? ⟨w.heap.size, 1, none⟩ = some (.slice (some ⟨pb, po, none⟩) pl pc) ∧ w'.cell? ⟨pb, po + v, none⟩ = some (.slice la (rowA G.ps v).length lc) ∧ Below (w.heap.size + 1) (w.alloc (.cells #[.slice ia il ic, .slice (some ⟨pb, po, none⟩) pl pc] 25)) w') (first | exact ⟨hx40, hx41, hx42, hD4⟩ | exact ⟨hx30, hx31, hx32, hD3⟩ | exact ⟨hx20, hx21, hx22, hD2⟩ | exact ⟨hb0, hb1, hcl, hbel.drew⟩ | exact ⟨hb0, hb1, hcl, hbel⟩) (first | (go_at_call 19; have hHd := ‹_ ∧ _ ∧ _ ∧ Below (w.heap.size + 1) _ _›; (with_reducible refine (back_any _ _ _ _ _ _ G v (rowA G.ps v).length _ ?_).mono ?_); exact hG.below (belBox hHd.2.2.2); rintro e w2 ⟨rfl, hb2⟩; rw [hn1]; have hD2 : Below (w.heap.size + 1) (w.alloc (.cells #[.slice ia il ic, .slice (some ⟨pb, po, none⟩) pl pc] 25)) w2 := hHd.2.2.2.trans (hb2.mono (Nat.le_trans (by simp) hHd.2.2.2.size)); have hx20 : w2.cell? ⟨w.heap.size, 0, none⟩ = some (.slice ia il ic) := boxed hD2 0; have hx21 : w2.cell? ⟨w.heap.size, 1, none⟩ = some (.slice (some ⟨pb, po, none⟩) pl pc) := boxed hD2 1; have hx22 := ((belBox hD2).cell (p := ⟨pb, po + v, none⟩) hpb).trans HCL.out) | (go_at_call 19; have hHd := ‹_ ∧ _ ∧ _ ∧ Below (w.heap.size + 1) _ _›; (with_reducible refine (back_any _ _ _ _ _ _ G v (-1) _ ?_).mono ?_); exact hG.below (belBox hHd.2.2.2); rintro e w3 ⟨rfl, hb3⟩; rw [hn2]; have hD3 : Below (w.heap.size + 1) (w.alloc (.cells #[.slice ia il ic, .slice (some ⟨pb, po, none⟩) pl pc] 25)) w3 := hHd.2.2.2.trans (hb3.mono (Nat.le_trans (by simp) hHd.2.2.2.size)); have hx30 : w3.cell? ⟨w.heap.size, 0, none⟩ = some (.slice ia il ic) := boxed hD3 0; have hx31 : w3.cell? ⟨w.heap.size, 1, none⟩ = some (.slice (some ⟨pb, po, none⟩) pl pc) := boxed hD3 1; have hx32 := ((belBox hD3).cell (p := ⟨pb, po + v, none⟩) hpb).trans HCL.out) | (go_at_call 17; have hHd := ‹_ ∧ _ ∧ _ ∧ Below (w.heap.size + 1) _ _›; (with_reducible refine (degree_any _ _ _ _ _ _ G v _ ?_).mono ?_); exact hG.below (belBox hHd.2.2.2); rintro e w4 ⟨rfl, hb4⟩; rw [hn3]; have hD4 : Below (w.heap.size + 1) (w.alloc (.cells #[.slice ia il ic, .slice (some ⟨pb, po, none⟩) pl pc] 25)) w4 := hHd.2.2.2.trans (hb4.mono (Nat.le_trans (by simp) hHd.2.2.2.size)); have hx40 : w4.cell? ⟨w.heap.size, 0, none⟩ = some (.slice ia il ic) := boxed hD4 0; have hx41 : w4.cell? ⟨w.heap.size, 1, none⟩ = some (.slice (some ⟨pb, po, none⟩) pl pc) := boxed hD4 1; have hx42 := ((belBox hD4).cell (p := ⟨pb, po + v, none⟩) hpb).trans HCL.out))
            have hHd := ‹_ ∧ _ ∧ _ ∧ Below (w.heap.size + 1) _ _›
            go_wp2_with fail
            go_roundw
            case rel => exact ⟨v + 1, by omega, by go_num, hHd.2.2.2⟩
            case measure => simp [intOf]; omega
      · go_wp2_with (go_at_call 12; refine (awake_any _).mono ?_; rintro e w6 ⟨rfl, hb6⟩)
        go_ret
        exact ⟨rfl, (belBox hbel).trans (hb6.mono (belBox hbel).size)⟩

set_option maxRecDepth 100000 in
theorem lifted (os : Os) (started : os.Started) (H : Type) (enc : TypeId × Value → H) :
    ReturnsInHanded {} Try.checked os 5 .any (Rows.graphBackIsMutualSpec.pre6 enc Try.prog Try.f5 Rows.graphBackIsMutualRow.domain false) (Rows.graphBackIsMutualSpec.post enc Try.prog Try.f5 false true false false) := by
  refine returnsInHanded_of_change (C := Try.checked) own started (by kernel_rfl) Try.func5
    (ChangeSpec.witness6 (enc := enc) (C := Try.checked) false ⟨#[], #[.agg #[.slice none 0 0, .slice none 0 0]], []⟩ 8 (by kernel_rfl) (by kernel_rfl) (by kernel_rfl) (by kernel_rfl)) ?_
  intro W base args ds gs before hval0 hW hcnd _
  have hval : ∀ (j : Nat) t v, Try.f5.params[j]? = some t → args[j]? = some v → Value.okWide Try.prog W .any base t v := hval0
  have hW' := hW
  obtain ⟨p, q, hA0, hV, rfl, hfz, hnd⟩ := hW
  have hA : DataW.TrodAll enc Try.prog W 0 (fun _ => true) true Try.f5.params.toList args.toList ds p := hA0
  rw [Try.params5] at hA hval
  obtain ⟨v0, vs0, d0, ds0, p0, q0, hargs, rfl, rfl, h0, r0⟩ := trodAll_cons hA
  obtain ⟨rfl, rfl, rfl⟩ := trodAll_nil r0
  obtain rfl : args = #[v0] := by cases args; simp_all
  obtain ⟨rfl, rfl⟩ := trodVars_none hV
  have k0 := h0
  have lt0 : ∀ x ∈ p0, x.block < W.heap.size := by obtain ⟨m, hm⟩ := k0; exact DataW.trod_lt m _ _ _ hm
  obtain ⟨ia0, il0, ic0, pa0, pl0, pc0, G0, rfl, hG0⟩ := open_graph (hval 0 25 v0 rfl rfl) h0
  clear hA0 hval0
  refine (walk W ia0 il0 ic0 pa0 pl0 pc0 G0 hG0).mono fun e W' ⟨he, bel⟩ => ?_
  subst he
  exact ⟨_, rfl, _, _, _, [], _, [], hW', trodAll_mk1 (shut_bool Try.underlying4 _), (trodAll_cons_mk (Below.trod laidOut (by kernel_rfl) (of_decide_eq_true (by kernel_rfl)) k0 bel lt0) trodAll_mk0), rfl, bel.frame _, fun h => by cases h⟩

theorem over : Rows.graphBackIsMutualRow.holds Try.pinned (OpenSpec.ofChange Rows.graphBackIsMutualSpec) :=
  OpenClaim.holds_of_wide 5 Try.f5 rfl rfl rfl rfl rfl rfl rfl ⟨rfl, rfl, rfl, rfl, rfl⟩ rfl rfl rfl rfl rfl (by kernel_rfl) Try.func5 (by kernel_rfl)
    (of_decide_eq_true (by kernel_rfl)) (by unfold Func.isWrapper; first | (rw [if_pos (by decide +kernel)]; kernel_rfl) | (rw [if_neg (by decide +kernel)]; exact ⟨rfl, rfl⟩))
    (fun os started H enc _ => lifted os started H enc)

theorem proved : Rows.GraphBackIsMutualSaid := over
end Go.Proofs.Ytdclfhekmgnaiaa.lawGraphBackIsMutual
