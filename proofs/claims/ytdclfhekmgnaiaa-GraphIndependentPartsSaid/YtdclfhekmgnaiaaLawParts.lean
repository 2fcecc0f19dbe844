/- Every part of an independent set is independent, and two neighbours are never both in one. No conditions: every input. -/
import Derived.Test.YtdclfhekmgnaiaaGraph9
import Derived.Test.YtdclfhekmgnaiaaLaw1
import Derived.OpenShut
import Derived.ChangeOld
import Derived.Deep.RegionHeld3
namespace Go.Proofs.Ytdclfhekmgnaiaa.lawGraphIndependentParts
open Go.ChangeShapes Go.WideShapes Go.ChangeAt Go.RowKit
set_option linter.unusedVariables false

/-- both ends of the k-th link of node u lie in S -/
def Tog (G : Gr) (S u k : Nat) : Prop := S.testBit u = true ∧ S.testBit (toA (rowA G.ps u) k).toNat = true
theorem hit_lnk {S u d j : Nat} : Hit S j (lnk u d) ↔ (S.testBit u = true ∧ j = d) ∨ (S.testBit d = true ∧ j = u) := by
  unfold Hit lnk
  rcases Nat.le_total u d with h | h
  · rw [Nat.min_eq_left h, Nat.max_eq_right h]
  · simp only [Nat.min_eq_right h, Nat.max_eq_left h]
    exact Or.comm
theorem ind_iff {G : Gr} {S : Nat} (hV : ValidG G) (hS : S < 2 ^ G.ps.length) : indB G S = true ↔ ∀ u, u < G.ps.length → ∀ k, k < (rowA G.ps u).length → ¬ Tog G S u k := by
  have h1 : S / 2 ^ G.ps.length = 0 := Nat.div_eq_of_lt hS
  unfold indB nbF
  rw [validB_mk hV, h1]
  simp only [if_true, Bool.true_and, beq_self_eq_true, beq_iff_eq]
  have h2 : (S &&& arF S (allLinks G G.ps.length) = 0) ↔ ∀ j, ¬ (S.testBit j = true ∧ ∃ p ∈ allLinks G G.ps.length, Hit S j p) := by
    constructor
    · intro h j ⟨h3, h4⟩
      have : (S &&& arF S (allLinks G G.ps.length)).testBit j = true := by rw [Nat.testBit_and, h3, arF_bit.2 h4]; rfl
      rw [h] at this
      simp at this
    · intro h
      apply Nat.eq_of_testBit_eq
      intro j
      rw [Nat.zero_testBit, Nat.testBit_and]
      cases h3 : S.testBit j
      · rfl
      · cases h4 : (arF S (allLinks G G.ps.length)).testBit j
        · rfl
        · exact absurd ⟨h3, arF_bit.1 h4⟩ (h j)
  rw [h2]
  constructor
  · intro h u hu k hk ⟨t1, t2⟩
    exact h _ ⟨t1, lnk u (toA (rowA G.ps u) k).toNat, mem_allLinks.2 ⟨u, hu, k, hk, rfl⟩, hit_lnk.2 (.inr ⟨t2, rfl⟩)⟩
  · rintro h j ⟨h3, p, hp, hh⟩
    obtain ⟨u, hu, k, hk, rfl⟩ := mem_allLinks.1 hp
    rcases hit_lnk.1 hh with ⟨h5, h6⟩ | ⟨h5, h6⟩
    · exact h u hu k hk ⟨h5, by rw [← h6]; exact h3⟩
    · exact h u hu k hk ⟨by rw [← h6]; exact h3, h5⟩
theorem ind_part {G : Gr} {S T : Nat} (hV : ValidG G) (hS : S < 2 ^ G.ps.length) (h : indB G S = true) : indB G (S &&& T) = true := by
  rw [ind_iff hV (Nat.lt_of_le_of_lt Nat.and_le_left hS)]
  intro u hu k hk ⟨h1, h2⟩
  rw [Nat.testBit_and, Bool.and_eq_true] at h1 h2
  exact (ind_iff hV hS).1 h u hu k hk ⟨h1.1, h2.1⟩

theorem wf_U32 {z : Int} (h : (Lit.int .u32 z).wf = true) : ∃ s : Nat, z = s ∧ s < 4294967296 := by
  have h2 : 0 ≤ z ∧ z ≤ 4294967295 := by simpa [Lit.wf, IntKind.min, IntKind.max, IntKind.bits, IntKind.signed] using h
  exact ⟨z.toNat, by omega, by omega⟩

set_option maxRecDepth 100000 in
set_option maxHeartbeats 2000000 in
theorem walk (w : World) (ia : Option Addr) (il ic : Nat) (pa : Option Addr) (pl pc : Nat) (G : Gr) (hG : GraphAt w ia il pa pl G) (a1 : Int) (wf1 : (Lit.int .u32 a1).wf = true) (a2 : Int) (wf2 : (Lit.int .u32 a2).wf = true) :
    Calls Try.prog 9 #[.agg #[.slice ia il ic, .slice pa pl pc], .int .u32 a1, .int .u32 a2] w fun e w' => e = .returned (.bool true) ∧ Below w.heap.size w w' := by
  have Hpl := Lib.hid hG.pl
  cases hf : fairB G with
  | false =>
    go_enter Try.func9, Try.ntmps9
    go_wp2_with (first | (go_at_call 36; refine (fair_any _ _ _ _ _ _ G _ (hG.alloc _)).mono ?_; rintro e w1 ⟨rfl, hb1⟩) | (go_at_call 12; refine (awake_any _).mono ?_; rintro e w2 ⟨rfl, hb2⟩))
    go_ret
    exact ⟨rfl, (((Below.refl _ _).alloc (Nat.le_refl _) _).trans (hb1.mono (by simp))).trans (hb2.mono (Nat.le_trans (by simp) hb1.size))⟩
  | true =>
    have HV := Lib.hid (fairB_iff.1 hf).2
    have hp1 : 1 ≤ pl := by have := HV.out.pos; have := Hpl.out; omega
    have hp24 : pl ≤ 24 := by have := HV.out.le; have := Hpl.out; omega
    obtain ⟨set, rfl, hset⟩ := wf_U32 wf1
    obtain ⟨part, rfl, hpart⟩ := wf_U32 wf2
    clear wf1 wf2
    obtain ⟨S, hSd⟩ : ∃ S, set &&& allS pl = S := ⟨_, rfl⟩
    have hS : S < 4294967296 := by rw [← hSd]; exact and_lt' hset
    have hSn : S < 2 ^ G.ps.length := by
      rw [← hSd, ← Hpl.out]
      refine Nat.lt_of_le_of_lt Nat.and_le_right ?_
      have := Nat.two_pow_pos pl
      unfold allS
      omega
    have hand := bits_and set (allS pl) hset (allS_lt (by omega))
    rw [hSd] at hand
    have hand2 := bits_and S part hS hpart
    have HI := Lib.hid (ind_iff HV.out hSn)
    have HP := Lib.hid (ind_part (T := part) HV.out hSn)
    have hS2 : S &&& part < 4294967296 := and_lt' hS
    clear hSn hSd
    obtain ⟨pb, po, rfl, hpb, hrow⟩ := hG.ports.row (by have := Hpl.out; omega)
    have Hrow := Lib.hid hrow
    clear hrow
    cases his : indB G S
    case' true.false =>
      go_enter Try.func9, Try.ntmps9
      go_wp2_with (first | (go_at_call 36; refine (fair_any _ _ _ _ _ _ G _ (hG.alloc _)).mono ?_; rintro e w1 ⟨rfl, hb1⟩; have hbx : Below (w.heap.size + 1) (w.alloc (.cells #[.slice ia il ic, .slice (some ⟨pb, po, none⟩) pl pc] 25)) w1 := hb1.mono (by simp); have hx10 : w1.cell? ⟨w.heap.size, 0, none⟩ = some (.slice ia il ic) := boxed hbx 0; have hx11 : w1.cell? ⟨w.heap.size, 1, none⟩ = some (.slice (some ⟨pb, po, none⟩) pl pc) := boxed hbx 1) | (go_at_call 38; refine (all_any pl _ (by omega)).mono ?_; rintro e w2 ⟨rfl, rfl⟩) | (go_at_call 23; refine (independent_any _ _ _ _ _ _ G S _ (hG.below (belBox hbx)) hS).mono ?_; rintro e w3 ⟨rfl, hb3⟩; rw [his]; have hbel0 : Below (w.heap.size + 1) (w.alloc (.cells #[.slice ia il ic, .slice (some ⟨pb, po, none⟩) pl pc] 25)) w3 := hbx.trans (hb3.mono (Nat.le_trans (by simp) hbx.size))))
    case' true.true =>
      go_enter Try.func9, Try.ntmps9
      go_wp2_with (first | (go_at_call 36; refine (fair_any _ _ _ _ _ _ G _ (hG.alloc _)).mono ?_; rintro e w1 ⟨rfl, hb1⟩; have hbx : Below (w.heap.size + 1) (w.alloc (.cells #[.slice ia il ic, .slice (some ⟨pb, po, none⟩) pl pc] 25)) w1 := hb1.mono (by simp); have hx10 : w1.cell? ⟨w.heap.size, 0, none⟩ = some (.slice ia il ic) := boxed hbx 0; have hx11 : w1.cell? ⟨w.heap.size, 1, none⟩ = some (.slice (some ⟨pb, po, none⟩) pl pc) := boxed hbx 1) | (go_at_call 38; refine (all_any pl _ (by omega)).mono ?_; rintro e w2 ⟨rfl, rfl⟩) | (go_at_call 23; (with_reducible refine (independent_any _ _ _ _ _ _ G S _ ?_ hS).mono ?_); exact hG.below (belBox hbx); rintro e w3 ⟨rfl, hb3⟩; rw [his]; have hbx3 : Below (w.heap.size + 1) (w.alloc (.cells #[.slice ia il ic, .slice (some ⟨pb, po, none⟩) pl pc] 25)) w3 := hbx.trans (hb3.mono (Nat.le_trans (by simp) hbx.size)); have hx30 : w3.cell? ⟨w.heap.size, 0, none⟩ = some (.slice ia il ic) := boxed hbx3 0; have hx31 : w3.cell? ⟨w.heap.size, 1, none⟩ = some (.slice (some ⟨pb, po, none⟩) pl pc) := boxed hbx3 1) | (go_at_call 23; (with_reducible refine (independent_any _ _ _ _ _ _ G (S &&& part) _ ?_ hS2).mono ?_); exact hG.below (belBox hbx3); rintro e w4 ⟨rfl, hb4⟩; rw [HP.out his]; have hbel0 : Below (w.heap.size + 1) (w.alloc (.cells #[.slice ia il ic, .slice (some ⟨pb, po, none⟩) pl pc] 25)) w4 := hbx3.trans (hb4.mono (Nat.le_trans (by simp) hbx3.size))))
    all_goals
      have hbel := hbel0
      clear hbel0 hb1 hx10 hx11
      go_loopw [8, 9] (fun f t wr => ∃ (v : Nat) (b : Bool), v ≤ pl ∧ f = .bool b ∧ t = .int .i64 v ∧ (b = true ↔ ∃ u, u < v ∧ ∃ k, k < (rowA G.ps u).length ∧ Tog G S u k) ∧ Below (w.heap.size + 1) (w.alloc (.cells #[.slice ia il ic, .slice (some ⟨pb, po, none⟩) pl pc] 25)) wr) (fun _ t _ => pl - (intOf t).toNat)
      case atStart =>
        refine ⟨0, false, Nat.zero_le _, rfl, rfl, ?_, by first | exact hbel | exact belDraws hbel _⟩
        simp
      case round =>
        obtain ⟨v, b, hv, rfl, rfl, hb, hbel⟩ := hrel
        have Hb := Lib.hid hb
        clear hb
        have hb0 : wr.cell? ⟨w.heap.size, 0, none⟩ = some (.slice ia il ic) := boxed hbel 0
        have hb1 : wr.cell? ⟨w.heap.size, 1, none⟩ = some (.slice (some ⟨pb, po, none⟩) pl pc) := boxed hbel 1
        by_cases hlt : v < pl
        · obtain ⟨la, lc, hcl, hL⟩ := Hrow.out v (by have := Hpl.out; omega)
          have hvG : v < G.ps.length := by have := Hpl.out; omega
          have HCL := Lib.hid hcl
          have hcl := ((belBox hbel).cell (p := ⟨pb, po + v, none⟩) hpb).trans hcl
          have hlm := hL.size
          unfold maxLen at hlm
          have HL := Lib.hid hL
          clear hL
          go_wp2
          obtain ⟨wo, rfl⟩ : ∃ wo : World, wo = wr := ⟨_, rfl⟩
          clear hb0 hb1 hcl
          go_loopw [8, 10] (fun f t wr => ∃ (i : Nat) (b : Bool), i ≤ (rowA G.ps v).length ∧ f = .bool b ∧ t = .int .i64 i ∧ (b = true ↔ (∃ u, u < v ∧ ∃ k, k < (rowA G.ps u).length ∧ Tog G S u k) ∨ ∃ k, k < i ∧ Tog G S v k) ∧ Below (w.heap.size + 1) (w.alloc (.cells #[.slice ia il ic, .slice (some ⟨pb, po, none⟩) pl pc] 25)) wr) (fun _ t _ => (rowA G.ps v).length - (intOf t).toNat)
          case atStart =>
            refine ⟨0, b, Nat.zero_le _, rfl, rfl, ?_, hbel⟩
            rw [Hb.out]
            simp
          case round =>
            clear hbel
            obtain ⟨i, b2, hi, rfl, rfl, hb, hbel⟩ := hrel
            have Hb2 := Lib.hid hb
            clear hb
            have hb0 : wr.cell? ⟨w.heap.size, 0, none⟩ = some (.slice ia il ic) := boxed hbel 0
            have hb1 : wr.cell? ⟨w.heap.size, 1, none⟩ = some (.slice (some ⟨pb, po, none⟩) pl pc) := boxed hbel 1
            have hcl := ((belBox hbel).cell (p := ⟨pb, po + v, none⟩) hpb).trans HCL.out
            by_cases hli : i < (rowA G.ps v).length
            · obtain ⟨lb, lo, rfl, hlb, hcs⟩ := HL.out.row (by omega)
              have hck := ((belBox hbel).cell (p := ⟨lb, lo + i * 2, none⟩) hlb).trans (hcs i hli).1
              clear hcs
              have hok := HV.out.links v hvG i hli
              obtain ⟨d, hd⟩ : ∃ d : Nat, toA (rowA G.ps v) i = d := ⟨(toA (rowA G.ps v) i).toNat, by have := hok.1; omega⟩
              have hdl : d < pl := by have := hok.1; have := Hpl.out; omega
              rw [hd] at hck
              have HX : Hid (∀ c : Bool, (c = true ↔ b2 = true ∨ S.testBit v = true ∧ S.testBit d = true) → (c = true ↔ (∃ u, u < v ∧ ∃ k, k < (rowA G.ps u).length ∧ Tog G S u k) ∨ ∃ k, k < i + 1 ∧ Tog G S v k)) := Lib.hid (by
                intro c hc
                have ht : Tog G S v i ↔ S.testBit v = true ∧ S.testBit d = true := by unfold Tog; rw [hd, Int.toNat_natCast]
                rw [hc, ← ht, Hb2.out]
                constructor
                · rintro ((h | ⟨k, h1, h2⟩) | h)
                  · exact .inl h
                  · exact .inr ⟨k, by omega, h2⟩
                  · exact .inr ⟨i, by omega, h⟩
                · rintro (h | ⟨k, h1, h2⟩)
                  · exact .inl (.inl h)
                  · by_cases h3 : k < i
                    · exact .inl (.inr ⟨k, h3, h2⟩)
                    · rw [show k = i by omega] at h2
                      exact .inr h2)
              have HSv := Lib.hid (hasS_nat (S := S) (v := v) (by omega))
              have HSd := Lib.hid (hasS_nat (S := S) (v := d) (by omega))
              clear hd hok
              cases hsv : S.testBit v
              all_goals cases hsd : S.testBit d
              all_goals
                have hSv := HSv.out
                have hSd := HSd.out
                rw [hsv] at hSv
                rw [hsd] at hSd
                have Hc := HX
                rw [hsv, hsd] at Hc
                clear HX
                cases b2
                all_goals
                  go_wp2_with (go_at_call 39; first | ((with_reducible refine (has01_any S v _ hS).mono ?_); rintro e w5 ⟨rfl, rfl⟩; rw [hSv]) | ((with_reducible refine (has01_any S d _ hS).mono ?_); rintro e w5 ⟨rfl, rfl⟩; rw [hSd]))
                  go_roundw
                  case rel => exact ⟨i + 1, _, by omega, rfl, by go_num, Hc.out _ (by simp), by first | exact hbel | exact belDraws hbel _⟩
                  case measure => simp [intOf]; omega
            · go_wp2
              go_roundw
              case rel => exact ⟨v + 1, _, by omega, rfl, by go_num, by
                rw [Hb2.out, show i = (rowA G.ps v).length by omega]
                constructor
                · rintro (⟨u, hu, h⟩ | h)
                  · exact ⟨u, by omega, h⟩
                  · exact ⟨v, by omega, h⟩
                · rintro ⟨u, hu, h⟩
                  by_cases h3 : u < v
                  · exact .inl ⟨u, h3, h⟩
                  · rw [show u = v by omega] at h
                    exact .inr h, hbel⟩
              case measure => simp [intOf]; omega
        · have Hend : Hid (indB G S = !b) := Lib.hid (by
            rw [Bool.eq_iff_iff, HI.out]
            have : v = pl := by omega
            have h2 := Hb.out
            rw [this, Hpl.out] at h2
            cases b
            · simp only [Bool.not_false, iff_true]
              intro u hu k hk ht
              have := h2.2 ⟨u, hu, k, hk, ht⟩
              cases this
            · simp only [Bool.not_true, Bool.false_eq_true, iff_false]
              intro h
              obtain ⟨u, hu, k, hk, ht⟩ := h2.1 rfl
              exact h u hu k hk ht)
          rw [his] at Hend
          have hend := Hend.out
          cases b
          all_goals first | (exfalso; simp at hend; done) | skip
          all_goals
            clear hend
            go_wp2_with (go_at_call 12; refine (awake_any _).mono ?_; rintro e w6 ⟨rfl, hb6⟩)
            go_ret
            exact ⟨rfl, (belBox hbel).trans (hb6.mono (belBox hbel).size)⟩

set_option maxRecDepth 100000 in
theorem lifted (os : Os) (started : os.Started) (H : Type) (enc : TypeId × Value → H) :
    ReturnsInHanded {} Try.checked os 9 .any (Rows.graphIndependentPartsSpec.pre6 enc Try.prog Try.f9 Rows.graphIndependentPartsRow.domain false) (Rows.graphIndependentPartsSpec.post enc Try.prog Try.f9 false true false false) := by
  refine returnsInHanded_of_change (C := Try.checked) own started (by kernel_rfl) Try.func9
    (ChangeSpec.witness6 (enc := enc) (C := Try.checked) false ⟨#[], #[.agg #[.slice none 0 0, .slice none 0 0], .int .u32 0, .int .u32 0], []⟩ 8 (by kernel_rfl) (by kernel_rfl) (by kernel_rfl) (by kernel_rfl)) ?_
  intro W base args ds gs before hval0 hW hcnd _
  have hval : ∀ (j : Nat) t v, Try.f9.params[j]? = some t → args[j]? = some v → Value.okWide Try.prog W .any base t v := hval0
  have hW' := hW
  obtain ⟨p, q, hA0, hV, rfl, hfz, hnd⟩ := hW
  have hA : DataW.TrodAll enc Try.prog W 0 (fun _ => true) true Try.f9.params.toList args.toList ds p := hA0
  rw [Try.params9] at hA hval
  obtain ⟨v0, vs0, d0, ds0, p0, q0, hargs, rfl, rfl, h0, r0⟩ := trodAll_cons hA
  obtain ⟨v1, vs1, d1, ds1, p1, q1, rfl, rfl, rfl, h1, r1⟩ := trodAll_cons r0
  obtain ⟨v2, vs2, d2, ds2, p2, q2, rfl, rfl, rfl, h2, r2⟩ := trodAll_cons r1
  obtain ⟨rfl, rfl, rfl⟩ := trodAll_nil r2
  obtain rfl : args = #[v0, v1, v2] := by cases args; simp_all
  obtain ⟨rfl, rfl⟩ := trodVars_none hV
  have k0 := h0
  have lt0 : ∀ x ∈ p0, x.block < W.heap.size := by obtain ⟨m, hm⟩ := k0; exact DataW.trod_lt m _ _ _ hm
  obtain ⟨ia0, il0, ic0, pa0, pl0, pc0, G0, rfl, hG0⟩ := open_graph (hval 0 25 v0 rfl rfl) h0
  have k1 := h1
  have lt1 : ∀ x ∈ p1, x.block < W.heap.size := by obtain ⟨m, hm⟩ := k1; exact DataW.trod_lt m _ _ _ hm
  obtain ⟨a1, rfl, rfl, rfl, w1⟩ := open_int Try.underlying26 (hval 1 26 v1 rfl rfl) h1
  have k2 := h2
  have lt2 : ∀ x ∈ p2, x.block < W.heap.size := by obtain ⟨m, hm⟩ := k2; exact DataW.trod_lt m _ _ _ hm
  obtain ⟨a2, rfl, rfl, rfl, w2⟩ := open_int Try.underlying26 (hval 2 26 v2 rfl rfl) h2
  clear hA0 hval0
  refine (walk W ia0 il0 ic0 pa0 pl0 pc0 G0 hG0 a1 w1 a2 w2).mono fun e W' ⟨he, bel⟩ => ?_
  subst he
  exact ⟨_, rfl, _, _, _, [], _, [], hW', trodAll_mk1 (shut_bool Try.underlying4 _), (trodAll_cons_mk (Below.trod laidOut (by kernel_rfl) (of_decide_eq_true (by kernel_rfl)) k0 bel lt0) (trodAll_cons_mk (Below.trod laidOut (by kernel_rfl) (of_decide_eq_true (by kernel_rfl)) k1 bel lt1) (trodAll_cons_mk (Below.trod laidOut (by kernel_rfl) (of_decide_eq_true (by kernel_rfl)) k2 bel lt2) trodAll_mk0))), rfl, bel.frame _, fun h => by cases h⟩

theorem over : Rows.graphIndependentPartsRow.holds Try.pinned (OpenSpec.ofChange Rows.graphIndependentPartsSpec) :=
  OpenClaim.holds_of_wide 9 Try.f9 rfl rfl rfl rfl rfl rfl rfl ⟨rfl, rfl, rfl, rfl, rfl⟩ rfl rfl rfl rfl rfl (by kernel_rfl) Try.func9 (by kernel_rfl)
    (of_decide_eq_true (by kernel_rfl)) (by unfold Func.isWrapper; first | (rw [if_pos (by decide +kernel)]; kernel_rfl) | (rw [if_neg (by decide +kernel)]; exact ⟨rfl, rfl⟩))
    (fun os started H enc _ => lifted os started H enc)

theorem proved : Rows.GraphIndependentPartsSaid := over
end Go.Proofs.Ytdclfhekmgnaiaa.lawGraphIndependentParts
