/- GraphtextTellsGraphsApart: for any two valid graphs of at most 30 nodes with 30 ports, Format gives one text exactly if the graphs are the same; other pairs ask the example alone. -/
import Derived.Test.YtahhndhaciijpaaDoorLawT2
namespace Go.Proofs.YtahhndhaciijpaaDoor
open Go.ChangeShapes Go.WideShapes Go.ChangeAt Go.RowKit

/-- the world wr behind the making of the boxes of two arguments in w -/
def Bx2 (w : World) (ia : Option Addr) (il ic : Nat) (pa : Option Addr) (pl pc : Nat) (ja : Option Addr) (jl jc : Nat) (qa : Option Addr) (ql qc : Nat) (wr : World) : Prop :=
  Below (w.heap.size + 2) ((w.alloc (.cells #[.slice ia il ic, .slice pa pl pc] 26)).alloc (.cells #[.slice ja jl jc, .slice qa ql qc] 26)) wr
section
variable {w wr w2 : World} {ia pa ja qa : Option Addr} {il ic pl pc jl jc ql qc : Nat}
theorem Bx2.start (w : World) (ia : Option Addr) (il ic : Nat) (pa : Option Addr) (pl pc : Nat) (ja : Option Addr) (jl jc : Nat) (qa : Option Addr) (ql qc : Nat) : Bx2 w ia il ic pa pl pc ja jl jc qa ql qc ((w.alloc (.cells #[.slice ia il ic, .slice pa pl pc] 26)).alloc (.cells #[.slice ja jl jc, .slice qa ql qc] 26)) := Below.refl _ _
theorem Bx2.next (h : Bx2 w ia il ic pa pl pc ja jl jc qa ql qc wr) (hb : Below wr.heap.size wr w2) : Bx2 w ia il ic pa pl pc ja jl jc qa ql qc w2 := Below.trans h (hb.mono (Nat.le_trans (by simp) (Below.size h)))
theorem Bx2.c0 (h : Bx2 w ia il ic pa pl pc ja jl jc qa ql qc wr) : wr.cell? ⟨w.heap.size, 0, none⟩ = some (.slice ia il ic) := boxedA h 0
theorem Bx2.c1 (h : Bx2 w ia il ic pa pl pc ja jl jc qa ql qc wr) : wr.cell? ⟨w.heap.size, 1, none⟩ = some (.slice pa pl pc) := boxedA h 1
theorem Bx2.c2 (h : Bx2 w ia il ic pa pl pc ja jl jc qa ql qc wr) : wr.cell? ⟨w.heap.size + 1, 0, none⟩ = some (.slice ja jl jc) := boxedB h 0
theorem Bx2.c3 (h : Bx2 w ia il ic pa pl pc ja jl jc qa ql qc wr) : wr.cell? ⟨w.heap.size + 1, 1, none⟩ = some (.slice qa ql qc) := boxedB h 1
theorem Bx2.bel (h : Bx2 w ia il ic pa pl pc ja jl jc qa ql qc wr) : Below w.heap.size w wr := belBox2 h
end
theorem formatE_valid {G : Gr} (h : validB G = true) : formatE G = 0 := by unfold formatE; rw [h]; rfl

namespace lawGraphtextTellsGraphsApart
theorem gl_all {W : World} (h : W.ShapedOpen Tryd.prog) (hL : laidMet Tryd.prog Rows.graphtextTellsGraphsApartRow.laid W) : Gl W ∧ Tb W := ⟨gl_of h, tb_of hL (.tail _ (.tail _ (.head _)))⟩

set_option maxRecDepth 100000 in
set_option maxHeartbeats 4000000 in
theorem walk (W : World) (hg : Gl W ∧ Tb W) (ia : Option Addr) (il ic : Nat) (pa : Option Addr) (pl pc : Nat) (G : Gr) (hG : GraphAt W ia il pa pl G) (ja : Option Addr) (jl jc : Nat) (qa : Option Addr) (ql qc : Nat) (K : Gr) (hK : GraphAt W ja jl qa ql K) :
    Calls Tryd.prog 8 #[.agg #[.slice ia il ic, .slice pa pl pc], .agg #[.slice ja jl jc, .slice qa ql qc]] W fun e W' => e = .returned (.bool true) ∧ Below W.heap.size W W' := by
  have HG := Lib.hid hg
  have HGr := Lib.hid hG
  have HK := Lib.hid hK
  have H0 := Lib.hid (Bx2.start W ia il ic pa pl pc ja jl jc qa ql qc)
  have hl1 := fun w (h : Bx2 W ia il ic pa pl pc ja jl jc qa ql qc w) => light_any ia pa il ic pl pc G w (HGr.out.below h.bel)
  have hl2 := fun w (h : Bx2 W ia il ic pa pl pc ja jl jc qa ql qc w) => light_any ja qa jl jc ql qc K w (HK.out.below h.bel)
  have hv1 := fun w (h : Bx2 W ia il ic pa pl pc ja jl jc qa ql qc w) => refValid_any ia pa il ic pl pc G w (HGr.out.below h.bel)
  have hv2 := fun w (h : Bx2 W ia il ic pa pl pc ja jl jc qa ql qc w) => refValid_any ja qa jl jc ql qc K w (HK.out.below h.bel)
  clear hg hG hK
  have c0 := H0.out.c0
  have c1 := H0.out.c1
  have c2 := H0.out.c2
  have c3 := H0.out.c3
  cases h1 : lightB G with
  | false =>
    rw [h1] at hl1
    go_enter Tryd.func8, Tryd.ntmps8
    go_wp2_with (first | (go_at_call 13; (with_reducible refine (hl1 _ H0.out).mono ?_); rintro e w1 ⟨rfl, hb1⟩; have H1 := Lib.hid (H0.out.next hb1); clear hb1; have d0 := H1.out.c0; have d1 := H1.out.c1; have d2 := H1.out.c2; have d3 := H1.out.c3) | (go_at_call 9; refine (awake_any _ (HG.out.1.below H1.out.bel)).mono ?_; rintro e w9 ⟨rfl, hb9⟩))
    go_ret
    exact ⟨rfl, (H1.out.next hb9).bel⟩
  | true =>
    rw [h1] at hl1
    cases h2 : lightB K with
    | false =>
      rw [h2] at hl2
      go_enter Tryd.func8, Tryd.ntmps8
      go_wp2_with (first | (go_at_call 13; (with_reducible refine (hl1 _ H0.out).mono ?_); rintro e w1 ⟨rfl, hb1⟩; have H1 := Lib.hid (H0.out.next hb1); clear hb1; have d0 := H1.out.c0; have d1 := H1.out.c1; have d2 := H1.out.c2; have d3 := H1.out.c3) | (go_at_call 13; (with_reducible refine (hl2 _ H1.out).mono ?_); rintro e w2 ⟨rfl, hb2⟩; have H2 := Lib.hid (H1.out.next hb2); clear hb2; have d0 := H2.out.c0; have d1 := H2.out.c1; have d2 := H2.out.c2; have d3 := H2.out.c3) | (go_at_call 9; refine (awake_any _ (HG.out.1.below H2.out.bel)).mono ?_; rintro e w9 ⟨rfl, hb9⟩))
      go_ret
      exact ⟨rfl, (H2.out.next hb9).bel⟩
    | true =>
      rw [h2] at hl2
      cases h3 : validB G with
      | false =>
        rw [h3] at hv1
        go_enter Tryd.func8, Tryd.ntmps8
        go_wp2_with (first | (go_at_call 13; (with_reducible refine (hl1 _ H0.out).mono ?_); rintro e w1 ⟨rfl, hb1⟩; have H1 := Lib.hid (H0.out.next hb1); clear hb1; have d0 := H1.out.c0; have d1 := H1.out.c1; have d2 := H1.out.c2; have d3 := H1.out.c3) | (go_at_call 13; (with_reducible refine (hl2 _ H1.out).mono ?_); rintro e w2 ⟨rfl, hb2⟩; have H2 := Lib.hid (H1.out.next hb2); clear hb2; have d0 := H2.out.c0; have d1 := H2.out.c1; have d2 := H2.out.c2; have d3 := H2.out.c3) | (go_at_call 16; (with_reducible refine (hv1 _ H2.out).mono ?_); rintro e w3 ⟨rfl, hb3⟩; have H3 := Lib.hid (H2.out.next hb3); clear hb3; have d0 := H3.out.c0; have d1 := H3.out.c1; have d2 := H3.out.c2; have d3 := H3.out.c3) | (go_at_call 9; refine (awake_any _ (HG.out.1.below H3.out.bel)).mono ?_; rintro e w9 ⟨rfl, hb9⟩))
        go_ret
        exact ⟨rfl, (H3.out.next hb9).bel⟩
      | true =>
        rw [h3] at hv1
        cases h4 : validB K with
        | false =>
          rw [h4] at hv2
          go_enter Tryd.func8, Tryd.ntmps8
          go_wp2_with (first | (go_at_call 13; (with_reducible refine (hl1 _ H0.out).mono ?_); rintro e w1 ⟨rfl, hb1⟩; have H1 := Lib.hid (H0.out.next hb1); clear hb1; have d0 := H1.out.c0; have d1 := H1.out.c1; have d2 := H1.out.c2; have d3 := H1.out.c3) | (go_at_call 13; (with_reducible refine (hl2 _ H1.out).mono ?_); rintro e w2 ⟨rfl, hb2⟩; have H2 := Lib.hid (H1.out.next hb2); clear hb2; have d0 := H2.out.c0; have d1 := H2.out.c1; have d2 := H2.out.c2; have d3 := H2.out.c3) | (go_at_call 16; (with_reducible refine (hv1 _ H2.out).mono ?_); rintro e w3 ⟨rfl, hb3⟩; have H3 := Lib.hid (H2.out.next hb3); clear hb3; have d0 := H3.out.c0; have d1 := H3.out.c1; have d2 := H3.out.c2; have d3 := H3.out.c3) | (go_at_call 16; (with_reducible refine (hv2 _ H3.out).mono ?_); rintro e w4 ⟨rfl, hb4⟩; have H4 := Lib.hid (H3.out.next hb4); clear hb4; have d0 := H4.out.c0; have d1 := H4.out.c1; have d2 := H4.out.c2; have d3 := H4.out.c3) | (go_at_call 9; refine (awake_any _ (HG.out.1.below H4.out.bel)).mono ?_; rintro e w9 ⟨rfl, hb9⟩))
          go_ret
          exact ⟨rfl, (H4.out.next hb9).bel⟩
        | true =>
          rw [h4] at hv2
          have hf1 := fun w (h : Bx2 W ia il ic pa pl pc ja jl jc qa ql qc w) => formatG_any ia pa il ic pl pc G w (HGr.out.below h.bel) (HG.out.2.below h.bel)
          have hf2 := fun w (h : Bx2 W ia il ic pa pl pc ja jl jc qa ql qc w) => formatG_any ja qa jl jc ql qc K w (HK.out.below h.bel) (HG.out.2.below h.bel)
          have hs := fun w (h : Bx2 W ia il ic pa pl pc ja jl jc qa ql qc w) => same_any ia pa ja qa il ic pl pc jl jc ql qc G K w (HGr.out.below h.bel) (HK.out.below h.bel)
          rw [formatE_valid h3] at hf1
          rw [formatE_valid h4] at hf2
          have Hinj := Lib.hid (format_inj (validB_iff.1 h3) (validB_iff.1 h4))
          by_cases he : G = K
          · have q1 : (formatS G == formatS K) = true := by rw [he]; simp
            have q2 : sameB G K = true := sameB_eq.2 he
            rw [q2] at hs
            go_enter Tryd.func8, Tryd.ntmps8
            go_wp2_with (first | (go_at_call 13; (with_reducible refine (hl1 _ H0.out).mono ?_); rintro e w1 ⟨rfl, hb1⟩; have H1 := Lib.hid (H0.out.next hb1); clear hb1; have d0 := H1.out.c0; have d1 := H1.out.c1; have d2 := H1.out.c2; have d3 := H1.out.c3) | (go_at_call 13; (with_reducible refine (hl2 _ H1.out).mono ?_); rintro e w2 ⟨rfl, hb2⟩; have H2 := Lib.hid (H1.out.next hb2); clear hb2; have d0 := H2.out.c0; have d1 := H2.out.c1; have d2 := H2.out.c2; have d3 := H2.out.c3) | (go_at_call 16; (with_reducible refine (hv1 _ H2.out).mono ?_); rintro e w3 ⟨rfl, hb3⟩; have H3 := Lib.hid (H2.out.next hb3); clear hb3; have d0 := H3.out.c0; have d1 := H3.out.c1; have d2 := H3.out.c2; have d3 := H3.out.c3) | (go_at_call 16; (with_reducible refine (hv2 _ H3.out).mono ?_); rintro e w4 ⟨rfl, hb4⟩; have H4 := Lib.hid (H3.out.next hb4); clear hb4; have d0 := H4.out.c0; have d1 := H4.out.c1; have d2 := H4.out.c2; have d3 := H4.out.c3) | (go_at_call 14; (with_reducible refine (hf1 _ H4.out).mono ?_); rintro e w5 ⟨rfl, hb5⟩; have H5 := Lib.hid (H4.out.next hb5); clear hb5; have d0 := H5.out.c0; have d1 := H5.out.c1; have d2 := H5.out.c2; have d3 := H5.out.c3) | (go_at_call 14; (with_reducible refine (hf2 _ H5.out).mono ?_); rintro e w6 ⟨rfl, hb6⟩; have H6 := Lib.hid (H5.out.next hb6); clear hb6; have d0 := H6.out.c0; have d1 := H6.out.c1; have d2 := H6.out.c2; have d3 := H6.out.c3) | (go_at_call 9; refine (awake_any _ (HG.out.1.below H6.out.bel)).mono ?_; rintro e w7 ⟨rfl, hb7⟩; have H7 := Lib.hid (H6.out.next hb7); clear hb7; have d0 := H7.out.c0; have d1 := H7.out.c1; have d2 := H7.out.c2; have d3 := H7.out.c3) | (go_at_call 12; (with_reducible refine (hs _ H7.out).mono ?_); rintro e w8 ⟨rfl, hb8⟩))
            go_ret
            exact ⟨rfl, (H7.out.next hb8).bel⟩
          · have q1 : (formatS G == formatS K) = false := by rw [beq_eq_false_iff_ne]; exact fun h => he (Hinj.out.1 h)
            have q2 : sameB G K = false := by
              cases h : sameB G K with
              | false => rfl
              | true => exact absurd (sameB_eq.1 h) he
            rw [q2] at hs
            go_enter Tryd.func8, Tryd.ntmps8
            go_wp2_with (first | (go_at_call 13; (with_reducible refine (hl1 _ H0.out).mono ?_); rintro e w1 ⟨rfl, hb1⟩; have H1 := Lib.hid (H0.out.next hb1); clear hb1; have d0 := H1.out.c0; have d1 := H1.out.c1; have d2 := H1.out.c2; have d3 := H1.out.c3) | (go_at_call 13; (with_reducible refine (hl2 _ H1.out).mono ?_); rintro e w2 ⟨rfl, hb2⟩; have H2 := Lib.hid (H1.out.next hb2); clear hb2; have d0 := H2.out.c0; have d1 := H2.out.c1; have d2 := H2.out.c2; have d3 := H2.out.c3) | (go_at_call 16; (with_reducible refine (hv1 _ H2.out).mono ?_); rintro e w3 ⟨rfl, hb3⟩; have H3 := Lib.hid (H2.out.next hb3); clear hb3; have d0 := H3.out.c0; have d1 := H3.out.c1; have d2 := H3.out.c2; have d3 := H3.out.c3) | (go_at_call 16; (with_reducible refine (hv2 _ H3.out).mono ?_); rintro e w4 ⟨rfl, hb4⟩; have H4 := Lib.hid (H3.out.next hb4); clear hb4; have d0 := H4.out.c0; have d1 := H4.out.c1; have d2 := H4.out.c2; have d3 := H4.out.c3) | (go_at_call 14; (with_reducible refine (hf1 _ H4.out).mono ?_); rintro e w5 ⟨rfl, hb5⟩; have H5 := Lib.hid (H4.out.next hb5); clear hb5; have d0 := H5.out.c0; have d1 := H5.out.c1; have d2 := H5.out.c2; have d3 := H5.out.c3) | (go_at_call 14; (with_reducible refine (hf2 _ H5.out).mono ?_); rintro e w6 ⟨rfl, hb6⟩; have H6 := Lib.hid (H5.out.next hb6); clear hb6; have d0 := H6.out.c0; have d1 := H6.out.c1; have d2 := H6.out.c2; have d3 := H6.out.c3) | (go_at_call 9; refine (awake_any _ (HG.out.1.below H6.out.bel)).mono ?_; rintro e w7 ⟨rfl, hb7⟩; have H7 := Lib.hid (H6.out.next hb7); clear hb7; have d0 := H7.out.c0; have d1 := H7.out.c1; have d2 := H7.out.c2; have d3 := H7.out.c3) | (go_at_call 12; (with_reducible refine (hs _ H7.out).mono ?_); rintro e w8 ⟨rfl, hb8⟩))
            go_ret
            exact ⟨rfl, (H7.out.next hb8).bel⟩

set_option maxRecDepth 100000 in
theorem lifted (os : Os) (started : os.Started) (H : Type) (enc : TypeId × Value → H) :
    ReturnsInHanded {} Tryd.checked os 8 .any (fun w args => (Rows.graphtextTellsGraphsApartSpec.pre enc Tryd.prog Tryd.f8 [] false w args ∧ laidMetH Tryd.prog Rows.graphtextTellsGraphsApartRow.laid w) ∧ sizedMet enc Tryd.prog Tryd.f8 (OpenSpec.ofChange Rows.graphtextTellsGraphsApartSpec) false w args)
      (Rows.graphtextTellsGraphsApartSpec.post enc Tryd.prog Tryd.f8 false true false false) := by
  refine shaped_and (C := Tryd.checked) (X := fun w _ => laidMetH Tryd.prog Rows.graphtextTellsGraphsApartRow.laid w) (fun _ _ _ hh h => h.of_heap hh) own started (by kernel_rfl) Tryd.func8
    (ChangeSpec.witness_shaped (enc := enc) (C := Tryd.checked) (os := os) (X := fun w _ => laidMetH Tryd.prog Rows.graphtextTellsGraphsApartRow.laid w) false (World.laidAll Tryd.prog os Rows.graphtextTellsGraphsApartRow.laid) #[.agg #[.slice none 0 0, .slice none 0 0], .agg #[.slice none 0 0, .slice none 0 0]] 8 (World.laidAll_os _ _ _)
      (World.shaped_of_ZipB (by kernel_rfl) (by kernel_rfl)) (by kernel_rfl) (by kernel_rfl) (by kernel_rfl)
      (by rw [MakeChecks.laidMetH_plain _ _ _ (by kernel_rfl)]; exact laidMet_laidAll _ (by kernel_rfl) (by kernel_rfl))) ?_
  intro W base args ds gs before hval0 hW hL hsh
  have hval : ∀ (j : Nat) t v, Tryd.f8.params[j]? = some t → args[j]? = some v → Value.okWide Tryd.prog W .any base t v := hval0
  have hW' := hW
  obtain ⟨p, q, hA0, hV, rfl, hfz, hnd⟩ := hW
  have hA : DataW.TrodAll enc Tryd.prog W 0 (fun _ => true) true Tryd.f8.params.toList args.toList ds p := hA0
  rw [Tryd.params8] at hA hval
  obtain ⟨v0, vs0, d0, ds0, p0, q0, hargs, rfl, rfl, h0, r0⟩ := trodAll_cons hA
  obtain ⟨v1, vs1, d1, ds1, p1, q1, rfl, rfl, rfl, h1, r1⟩ := trodAll_cons r0
  obtain ⟨rfl, rfl, rfl⟩ := trodAll_nil r1
  obtain rfl : args = #[v0, v1] := by cases args; simp_all
  obtain ⟨rfl, rfl⟩ := trodVars_none hV
  have k0 := h0
  have lt0 : ∀ x ∈ p0, x.block < W.heap.size := by obtain ⟨m, hm⟩ := k0; exact DataW.trod_lt m _ _ _ hm
  obtain ⟨ia0, il0, ic0, pa0, pl0, pc0, G0, rfl, hG0⟩ := open_graph (hval 0 26 v0 rfl rfl) h0
  have k1 := h1
  have lt1 : ∀ x ∈ p1, x.block < W.heap.size := by obtain ⟨m, hm⟩ := k1; exact DataW.trod_lt m _ _ _ hm
  obtain ⟨ia1, il1, ic1, pa1, pl1, pc1, G1, rfl, hG1⟩ := open_graph (hval 1 26 v1 rfl rfl) h1
  clear hA0 hval0
  rw [MakeChecks.laidMetH_plain _ _ _ (by kernel_rfl)] at hL
  refine (walk W (gl_all hsh hL) ia0 il0 ic0 pa0 pl0 pc0 G0 hG0 ia1 il1 ic1 pa1 pl1 pc1 G1 hG1).mono fun e W' ⟨he, bel⟩ => ?_
  subst he
  exact ⟨_, rfl, _, _, _, [], _, [], hW', trodAll_mk1 (shut_bool Tryd.underlying4 _), (trodAll_cons_mk (Below.trod laidOut (by kernel_rfl) (of_decide_eq_true (by kernel_rfl)) k0 bel lt0) (trodAll_cons_mk (Below.trod laidOut (by kernel_rfl) (of_decide_eq_true (by kernel_rfl)) k1 bel lt1) trodAll_mk0)), rfl, bel.frame _, fun h => by cases h⟩

theorem over : Rows.graphtextTellsGraphsApartRow.holds Tryd.pinned (OpenSpec.ofChange Rows.graphtextTellsGraphsApartSpec) :=
  OpenClaim.holds_of_wide 8 Tryd.f8 rfl rfl rfl rfl rfl rfl rfl ⟨rfl, rfl, rfl, rfl, rfl⟩ rfl rfl rfl rfl rfl (by kernel_rfl) Tryd.func8 (by kernel_rfl)
    (of_decide_eq_true (by kernel_rfl)) (by unfold Func.isWrapper; first | (rw [if_pos (by decide +kernel)]; kernel_rfl) | (rw [if_neg (by decide +kernel)]; exact ⟨rfl, rfl⟩))
    (fun os started H enc _ => lifted os started H enc)

theorem proved : Rows.GraphtextTellsGraphsApartCardSaid :=
  Claim7.holds_tied_plain_at .later [] Rows.graphtextTellsGraphsApartCard.laidKinds true Rows.graphtextTellsGraphsApartCard.stood.harness false over (fun _ h => by cases h) (by kernel_rfl) (fun _ h => by cases h) graphtextTellsGraphsApart_row_tie rfl ⟨rfl, rfl⟩ (by kernel_rfl) rfl
    (fun f fn hf hfn => by
      obtain rfl : f = 8 := Option.some.inj ((show Tryd.prog.funcNamed "selfstab/selfstablaw02.GraphtextTellsGraphsApart" = some 8 by kernel_rfl).symm.trans hf) |>.symm
      obtain rfl : fn = Tryd.f8 := (Option.some.inj (Tryd.func8.symm.trans hfn)).symm
      exact ⟨by kernel_rfl, fun j t ht => by
        rw [Tryd.params8] at ht
        have hm : t ∈ [26, 26] := by simpa using Array.mem_of_getElem? ht
        have hall : ([26, 26].all fun u => !Tryd.prog.wantsStandIn u) = true := by kernel_rfl
        exact (show Tryd.prog.wantsStandIn t = false by simpa using List.all_eq_true.1 hall t hm)⟩)
    (by kernel_rfl)
end lawGraphtextTellsGraphsApart
end Go.Proofs.YtahhndhaciijpaaDoor
