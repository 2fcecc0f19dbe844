/- GraphtextReadsBack: for every graph of at most 30 nodes with 30 ports: Format refuses it if it is not valid; else Parse returns it from its text, also without the last line feed; a greater graph asks the example alone. -/
import Derived.Test.YtahhndhaciijpaaDoorLawT2
namespace Go.Proofs.YtahhndhaciijpaaDoor
open Go.ChangeShapes Go.WideShapes Go.ChangeAt Go.RowKit

theorem formatS_len {G : Gr} (hV : ValidG G) : (formatS G).length ≤ 16384 ∧ 0 < (formatS G).length := by
  have h1 := fmt_len hV G.ps.length (Nat.le_refl _)
  have h2 := hV.le
  have e : formatS G = fmtUpto G G.ps.length := by unfold formatS fmtUpto nodesOf; rw [validB_mk hV]; simp
  rw [e]
  refine ⟨by omega, ?_⟩
  have h3 := hV.pos
  rw [show G.ps.length = (G.ps.length - 1) + 1 by omega, fmt_succ]
  simp only [List.length_append, List.length_cons, List.length_nil]
  omega
/-- a text that says the graph G -/
def Tells (t : Bytes) (G : Gr) : Prop := t.length ≤ 16384 ∧ textB t = .inr (nodesOf G)
theorem tells_whole {G : Gr} (hV : ValidG G) : Tells (formatS G) G := ⟨(formatS_len hV).1, (text_format hV).1⟩
theorem tells_short {G : Gr} (hV : ValidG G) : Tells (formatS G).dropLast G := ⟨by rw [List.length_dropLast]; have := (formatS_len hV).1; omega, (text_format hV).2⟩
theorem parse_tells {G : Gr} (hV : ValidG G) (s : ByteArray) (w : World) (hg : Gl w) (hs : Tells s.data.toList G) :
    Calls Tryd.prog 10 #[.string s] w fun e w' => (∃ ia il ic pa pl pc, e = .returned (.tuple #[.agg #[.slice ia il ic, .slice pa pl pc], .int .i64 0, .int .i64 0]) ∧ GraphAt w' ia il pa pl G) ∧ Below w.heap.size w w' := by
  refine (parseG_any s w hg).mono ?_
  rintro e w' ⟨h, hb⟩
  have hgr := gr_nodes hV
  have hv : validB (grOf (nodesOf G)) = true := by rw [hgr]; exact validB_mk hV
  refine ⟨?_, hb⟩
  rcases h with ⟨h, _⟩ | ⟨_, k, h, _⟩ | ⟨_, xs, h, h2, _⟩ | ⟨_, xs, h, _, ia, il, ic, pa, pl, pc, rfl, hG⟩
  · have := hs.1; omega
  · rw [hs.2] at h; cases h
  · rw [hs.2] at h
    obtain rfl : nodesOf G = xs := by simpa using h
    rw [hv] at h2; cases h2
  · rw [hs.2] at h
    obtain rfl : nodesOf G = xs := by simpa using h
    rw [hgr] at hG
    exact ⟨ia, il, ic, pa, pl, pc, rfl, hG⟩
theorem extract_front (l : Bytes) (n : Nat) : ((⟨l.toArray⟩ : ByteArray).extract 0 n).data.toList = l.take n := by
  rw [ByteArray.data_extract, Array.toList_extract]
  simp

namespace lawGraphtextReadsBack
theorem gl_all {W : World} (h : W.ShapedOpen Tryd.prog) (hL : laidMet Tryd.prog Rows.graphtextReadsBackRow.laid W) : Gl W ∧ Tb W := ⟨gl_of h, tb_of hL (.tail _ (.tail _ (.head _)))⟩

set_option maxRecDepth 100000 in
set_option maxHeartbeats 4000000 in
theorem walk (W : World) (hg : Gl W ∧ Tb W) (ia : Option Addr) (il ic : Nat) (pa : Option Addr) (pl pc : Nat) (G : Gr) (hG : GraphAt W ia il pa pl G) :
    Calls Tryd.prog 5 #[.agg #[.slice ia il ic, .slice pa pl pc]] W fun e W' => e = .returned (.bool true) ∧ Below W.heap.size W W' := by
  have HG := Lib.hid hg
  have HGr := Lib.hid hG
  have B0 := Bx.start W ia il ic pa pl pc
  have hl := light_any ia pa il ic pl pc G _ (HGr.out.below B0.bel)
  have H0 := Lib.hid B0
  clear hg hG B0
  cases hv : lightB G with
  | false =>
    rw [hv] at hl
    go_enter Tryd.func5, Tryd.ntmps5
    go_wp2_with (first | (go_at_call 13; refine hl.mono ?_; rintro e w1 ⟨rfl, hb1⟩; have H1 := Lib.hid (H0.out.next hb1); clear hb1) | (go_at_call 9; refine (awake_any _ (HG.out.1.below H1.out.bel)).mono ?_; rintro e w2 ⟨rfl, hb2⟩))
    go_ret
    exact ⟨rfl, (H1.out.next hb2).bel⟩
  | true =>
    rw [hv] at hl
    have hf := fun w (h : Bx W ia il ic pa pl pc w) => formatG_any ia pa il ic pl pc G w (HGr.out.below h.bel) (HG.out.2.below h.bel)
    have hva := fun w (h : Bx W ia il ic pa pl pc w) => refValid_any ia pa il ic pl pc G w (HGr.out.below h.bel)
    cases hvv : validB G with
    | false =>
      have e1 : formatE G = 1 := by unfold formatE; rw [hvv]; rfl
      have e2 : formatS G = [] := by unfold formatS; rw [hvv]; rfl
      rw [hvv] at hva
      rw [e1, e2] at hf
      clear e1 e2
      go_enter Tryd.func5, Tryd.ntmps5
      go_wp2_with (first | (go_at_call 13; refine hl.mono ?_; rintro e w1 ⟨rfl, hb1⟩; have H1 := Lib.hid (H0.out.next hb1); clear hb1; have c0 := H1.out.c0; have c1 := H1.out.c1) | (go_at_call 14; refine (hf _ H1.out).mono ?_; rintro e w2 ⟨rfl, hb2⟩; have H2 := Lib.hid (H1.out.next hb2); clear hb2; have c2 := H2.out.c0; have c3 := H2.out.c1) | (go_at_call 16; refine (hva _ H2.out).mono ?_; rintro e w3 ⟨rfl, hb3⟩; have H3 := Lib.hid (H2.out.next hb3); clear hb3) | (go_at_call 9; refine (awake_any _ (HG.out.1.below H3.out.bel)).mono ?_; rintro e w4 ⟨rfl, hb4⟩))
      go_ret
      exact ⟨rfl, (H3.out.next hb4).bel⟩
    | true =>
      have HV := Lib.hid (validB_iff.1 hvv)
      have e1 : formatE G = 0 := by unfold formatE; rw [hvv]; rfl
      rw [hvv] at hva
      rw [e1] at hf
      have T1 := Lib.hid (tells_whole HV.out)
      have T2 := Lib.hid (tells_short HV.out)
      have hlen := formatS_len HV.out
      have hself : sameB G G = true := sameB_mk rfl rfl
      clear e1
      generalize formatS G = t at *
      have q1 : ((t.length : Int) == 0) = false := by rw [beq_eq_false_iff_ne]; omega
      have hlen1 := hlen.1
      have hlen2 := hlen.2
      clear hlen
      go_enter Tryd.func5, Tryd.ntmps5
      go_wp2_with (first | (go_at_call 13; refine hl.mono ?_; rintro e w1 ⟨rfl, hb1⟩; have H1 := Lib.hid (H0.out.next hb1); clear hb1; have c0 := H1.out.c0; have c1 := H1.out.c1) | (go_at_call 14; refine (hf _ H1.out).mono ?_; rintro e w2 ⟨rfl, hb2⟩; have H2 := Lib.hid (H1.out.next hb2); clear hb2; have c2 := H2.out.c0; have c3 := H2.out.c1) | (go_at_call 16; refine (hva _ H2.out).mono ?_; rintro e w3 ⟨rfl, hb3⟩; have H3 := Lib.hid (H2.out.next hb3); clear hb3; have Z := trivial))
      clear c0 c1 c2 c3 hl hf hva
      refine (parse_tells HV.out ⟨t.toArray⟩ _ (HG.out.1.below H3.out.bel) T1.out).mono ?_
      rintro e w4 ⟨⟨ja, jl, jc, qa, ql, qc, rfl, hK⟩, hb4⟩
      have K4 := Lib.hid hK
      have H4 := Lib.hid (H3.out.next hb4)
      have H5 := Lib.hid (H4.out.alloc (.cells #[.slice ja jl jc, .slice qa ql qc] 26))
      clear hK hb4
      go_wp2_with fail
      refine (parse_tells HV.out _ _ (HG.out.1.below H5.out.bel) ?_).mono ?_
      · first
          | (rw [extract_front, List.dropLast_eq_take] at *; exact T2.out)
          | (have h := T2.out; rw [List.dropLast_eq_take] at h; rw [extract_front]; exact h)
      rintro e w6 ⟨⟨ka, kl, kc, ra, rl, rc, rfl, hK⟩, hb6⟩
      have K6 := Lib.hid hK
      have H6 := Lib.hid (H5.out.next hb6)
      have H7 := Lib.hid (H6.out.alloc (.cells #[.slice ka kl kc, .slice ra rl rc] 26))
      have b0 : w6.cell? ⟨w4.heap.size, 0, none⟩ = some (.slice ja jl jc) := (hb6.cell (p := ⟨w4.heap.size, 0, none⟩) (by simp)).trans (by simp [cell_push'])
      have b1 : w6.cell? ⟨w4.heap.size, 1, none⟩ = some (.slice qa ql qc) := (hb6.cell (p := ⟨w4.heap.size, 1, none⟩) (by simp)).trans (by simp [cell_push'])
      have K5 := Lib.hid ((K4.out.alloc (.cells #[.slice ja jl jc, .slice qa ql qc] 26)).below hb6)
      clear hK hb6
      go_wp2_with fail
      refine (awake_any _ (HG.out.1.below H7.out.bel)).mono ?_
      rintro e w8 ⟨rfl, hb8⟩
      have H8 := Lib.hid (H7.out.next hb8)
      have c0 := H8.out.c0
      have c1 := H8.out.c1
      have c2 : w8.cell? ⟨w4.heap.size, 0, none⟩ = some (.slice ja jl jc) := (hb8.cell (p := ⟨w4.heap.size, 0, none⟩) (by have := cell_lt b0; simp at this ⊢; omega)).trans (by rw [cell_push', if_neg (Nat.ne_of_lt (cell_lt b0))]; exact b0)
      have c3 : w8.cell? ⟨w4.heap.size, 1, none⟩ = some (.slice qa ql qc) := (hb8.cell (p := ⟨w4.heap.size, 1, none⟩) (by have := cell_lt b0; simp at this ⊢; omega)).trans (by rw [cell_push', if_neg (Nat.ne_of_lt (cell_lt b1))]; exact b1)
      have c4 : w8.cell? ⟨w6.heap.size, 0, none⟩ = some (.slice ka kl kc) := (hb8.cell (p := ⟨w6.heap.size, 0, none⟩) (by simp)).trans (by simp [cell_push'])
      have c5 : w8.cell? ⟨w6.heap.size, 1, none⟩ = some (.slice ra rl rc) := (hb8.cell (p := ⟨w6.heap.size, 1, none⟩) (by simp)).trans (by simp [cell_push'])
      have hs1 := same_any ia pa ja qa il ic pl pc jl jc ql qc G G w8 (HGr.out.below H8.out.bel) ((K5.out.alloc _).below hb8)
      have K8 := Lib.hid ((K6.out.alloc (.cells #[.slice ka kl kc, .slice ra rl rc] 26)).below hb8)
      rw [hself] at hs1
      clear hb8 b0 b1
      go_wp2_with fail
      refine hs1.mono ?_
      rintro e w9 ⟨rfl, hb9⟩
      have H9 := Lib.hid (H8.out.next hb9)
      have d0 := H9.out.c0
      have d1 := H9.out.c1
      have d4 := (hb9.cell (p := ⟨w6.heap.size, 0, none⟩) (cell_lt c4)).trans c4
      have d5 := (hb9.cell (p := ⟨w6.heap.size, 1, none⟩) (cell_lt c5)).trans c5
      have hs2 := same_any ia pa ka ra il ic pl pc kl kc rl rc G G w9 (HGr.out.below H9.out.bel) (K8.out.below hb9)
      rw [hself] at hs2
      clear hb9 c0 c1 c2 c3 c4 c5 hs1
      go_wp2_with fail
      refine hs2.mono ?_
      rintro e w10 ⟨rfl, hb10⟩
      go_wp2_with fail
      go_ret
      exact ⟨rfl, (H9.out.next hb10).bel⟩

set_option maxRecDepth 100000 in
theorem lifted (os : Os) (started : os.Started) (H : Type) (enc : TypeId × Value → H) :
    ReturnsInHanded {} Tryd.checked os 5 .any (fun w args => (Rows.graphtextReadsBackSpec.pre enc Tryd.prog Tryd.f5 [] false w args ∧ laidMetH Tryd.prog Rows.graphtextReadsBackRow.laid w) ∧ sizedMet enc Tryd.prog Tryd.f5 (OpenSpec.ofChange Rows.graphtextReadsBackSpec) false w args)
      (Rows.graphtextReadsBackSpec.post enc Tryd.prog Tryd.f5 false true false false) := by
  refine shaped_and (C := Tryd.checked) (X := fun w _ => laidMetH Tryd.prog Rows.graphtextReadsBackRow.laid w) (fun _ _ _ hh h => h.of_heap hh) own started (by kernel_rfl) Tryd.func5
    (ChangeSpec.witness_shaped (enc := enc) (C := Tryd.checked) (os := os) (X := fun w _ => laidMetH Tryd.prog Rows.graphtextReadsBackRow.laid w) false (World.laidAll Tryd.prog os Rows.graphtextReadsBackRow.laid) #[.agg #[.slice none 0 0, .slice none 0 0]] 8 (World.laidAll_os _ _ _)
      (World.shaped_of_ZipB (by kernel_rfl) (by kernel_rfl)) (by kernel_rfl) (by kernel_rfl) (by kernel_rfl)
      (by rw [MakeChecks.laidMetH_plain _ _ _ (by kernel_rfl)]; exact laidMet_laidAll _ (by kernel_rfl) (by kernel_rfl))) ?_
  intro W base args ds gs before hval0 hW hL hsh
  have hval : ∀ (j : Nat) t v, Tryd.f5.params[j]? = some t → args[j]? = some v → Value.okWide Tryd.prog W .any base t v := hval0
  have hW' := hW
  obtain ⟨p, q, hA0, hV, rfl, hfz, hnd⟩ := hW
  have hA : DataW.TrodAll enc Tryd.prog W 0 (fun _ => true) true Tryd.f5.params.toList args.toList ds p := hA0
  rw [Tryd.params5] at hA hval
  obtain ⟨v0, vs0, d0, ds0, p0, q0, hargs, rfl, rfl, h0, r0⟩ := trodAll_cons hA
  obtain ⟨rfl, rfl, rfl⟩ := trodAll_nil r0
  obtain rfl : args = #[v0] := by cases args; simp_all
  obtain ⟨rfl, rfl⟩ := trodVars_none hV
  have k0 := h0
  have lt0 : ∀ x ∈ p0, x.block < W.heap.size := by obtain ⟨m, hm⟩ := k0; exact DataW.trod_lt m _ _ _ hm
  obtain ⟨ia0, il0, ic0, pa0, pl0, pc0, G0, rfl, hG0⟩ := open_graph (hval 0 26 v0 rfl rfl) h0
  clear hA0 hval0
  rw [MakeChecks.laidMetH_plain _ _ _ (by kernel_rfl)] at hL
  refine (walk W (gl_all hsh hL) ia0 il0 ic0 pa0 pl0 pc0 G0 hG0).mono fun e W' ⟨he, bel⟩ => ?_
  subst he
  exact ⟨_, rfl, _, _, _, [], _, [], hW', trodAll_mk1 (shut_bool Tryd.underlying4 _), (trodAll_cons_mk (Below.trod laidOut (by kernel_rfl) (of_decide_eq_true (by kernel_rfl)) k0 bel lt0) trodAll_mk0), rfl, bel.frame _, fun h => by cases h⟩

theorem over : Rows.graphtextReadsBackRow.holds Tryd.pinned (OpenSpec.ofChange Rows.graphtextReadsBackSpec) :=
  OpenClaim.holds_of_wide 5 Tryd.f5 rfl rfl rfl rfl rfl rfl rfl ⟨rfl, rfl, rfl, rfl, rfl⟩ rfl rfl rfl rfl rfl (by kernel_rfl) Tryd.func5 (by kernel_rfl)
    (of_decide_eq_true (by kernel_rfl)) (by unfold Func.isWrapper; first | (rw [if_pos (by decide +kernel)]; kernel_rfl) | (rw [if_neg (by decide +kernel)]; exact ⟨rfl, rfl⟩))
    (fun os started H enc _ => lifted os started H enc)

theorem proved : Rows.GraphtextReadsBackCardSaid :=
  Claim7.holds_tied_plain_at .later [] Rows.graphtextReadsBackCard.laidKinds true Rows.graphtextReadsBackCard.stood.harness false over (fun _ h => by cases h) (by kernel_rfl) (fun _ h => by cases h) graphtextReadsBack_row_tie rfl ⟨rfl, rfl⟩ (by kernel_rfl) rfl
    (fun f fn hf hfn => by
      obtain rfl : f = 5 := Option.some.inj ((show Tryd.prog.funcNamed "selfstab/selfstablaw02.GraphtextReadsBack" = some 5 by kernel_rfl).symm.trans hf) |>.symm
      obtain rfl : fn = Tryd.f5 := (Option.some.inj (Tryd.func5.symm.trans hfn)).symm
      exact ⟨by kernel_rfl, fun j t ht => by
        rw [Tryd.params5] at ht
        have hm : t ∈ [26] := by simpa using Array.mem_of_getElem? ht
        have hall : ([26].all fun u => !Tryd.prog.wantsStandIn u) = true := by kernel_rfl
        exact (show Tryd.prog.wantsStandIn t = false by simpa using List.all_eq_true.1 hall t hm)⟩)
    (by kernel_rfl)
end lawGraphtextReadsBack
end Go.Proofs.YtahhndhaciijpaaDoor
