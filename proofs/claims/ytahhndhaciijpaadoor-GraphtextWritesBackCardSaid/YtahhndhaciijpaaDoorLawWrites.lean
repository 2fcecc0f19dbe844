/- GraphtextWritesBack: for every text of at most 2,000 bytes: if Parse returns a graph, Format of it is the text, with a line feed at its end; if it returns an error, the specification returns the same one; a longer text asks the example alone. -/
import Derived.Test.YtahhndhaciijpaaDoorLawT2
import Derived.Test.YtahhndhaciijpaaDoorParseR
namespace Go.Proofs.YtahhndhaciijpaaDoor
open Go.ChangeShapes Go.WideShapes Go.ChangeAt Go.RowKit

theorem parseG_out (s : ByteArray) (w : World) (hg : Gl w) : Calls Tryd.prog 10 #[.string s] w fun e w' => OutSays s.data.toList e w' ∧ Below w.heap.size w w' :=
  (parseG_any s w hg).mono fun _ _ h => ⟨parse_out h.1, h.2⟩
theorem parseR_outS (s : ByteArray) (w : World) (hs : s.size ≤ 16384) : Calls Tryd.prog 11 #[.string s] w fun e w' => OutSays s.data.toList e w' ∧ Below w.heap.size w w' :=
  (parseR_short s w hs).mono fun _ _ h => ⟨parse_out h.1, h.2⟩
theorem outcome_cases {t : Bytes} (h : t.length ≤ 16384) : (outcome t).2.1 ≠ 0 ∨ ∃ xs, textB t = .inr xs ∧ ValidG (grOf xs) ∧ outcome t = (0, 0, grOf xs) := by
  unfold outcome
  rw [if_neg (by omega)]
  cases ht : textB t with
  | inl k => exact .inl (show (4 : Int) ≠ 0 by decide)
  | inr xs =>
    by_cases hv : validB (grOf xs) = true
    · exact .inr ⟨xs, rfl, validB_iff.1 hv, by simp [hv]⟩
    · exact .inl (by simp [hv])

namespace lawGraphtextWritesBack
theorem gl_all {W : World} (h : W.ShapedOpen Tryd.prog) (hL : laidMet Tryd.prog Rows.graphtextWritesBackRow.laid W) : Gl W ∧ Tb W := ⟨gl_of h, tb_of hL (.tail _ (.tail _ (.head _)))⟩

set_option maxRecDepth 100000 in
set_option maxHeartbeats 4000000 in
theorem walk (W : World) (hg : Gl W ∧ Tb W) (s : ByteArray) : Calls Tryd.prog 6 #[.string s] W fun e W' => e = .returned (.bool true) ∧ Below W.heap.size W W' := by
  have HG := Lib.hid hg
  clear hg
  obtain ⟨t, rfl⟩ : ∃ t : List UInt8, s = ⟨t.toArray⟩ := ⟨s.data.toList, by cases s; simp⟩
  by_cases h1 : 2000 < t.length
  · have d1 : decide (2000 < (t.length : Int)) = true := by simp; omega
    go_enter Tryd.func6, Tryd.ntmps6
    go_wp2_with (go_at_call 9; refine (awake_any _ HG.out.1).mono ?_; rintro e w1 ⟨rfl, hb1⟩)
    go_ret
    exact ⟨rfl, hb1⟩
  have d1 : decide (2000 < (t.length : Int)) = false := by simp; omega
  have hp := parseG_out ⟨t.toArray⟩ W HG.out.1
  have hr := fun w => parseR_outS ⟨t.toArray⟩ w (by simp [ByteArray.size]; omega)
  have hd : (⟨t.toArray⟩ : ByteArray).data.toList = t := by simp
  have hc := outcome_cases (t := t) (by omega)
  unfold OutSays parseRet at hp hr
  rw [hd] at hp hr
  clear hd
  rcases hc with hN | ⟨xs, hx, hV, ho⟩
  · generalize outcome t = o at *
    obtain ⟨k, n, G⟩ := o
    have q1 : (n == 0) = false := by rw [beq_eq_false_iff_ne]; exact hN
    have q2 : (n != 0) = true := by rw [bne, q1]; rfl
    have q3 : (n == n) = true := by simp
    clear hN
    go_enter Tryd.func6, Tryd.ntmps6
    go_wp2_with fail
    refine hp.mono ?_
    rintro e w1 ⟨⟨ia, il, ic, pa, pl, pc, rfl, hG⟩, hb1⟩
    have B1 := Lib.hid (hb1.alloc hb1.size (.cells #[.slice ia il ic, .slice pa pl pc] 26))
    clear hG hb1
    go_wp2_with fail
    refine (hr _).mono ?_
    rintro e w2 ⟨⟨ja, jl, jc, qa, ql, qc, rfl, hK⟩, hb2⟩
    have B2 := Lib.hid (B1.out.trans (hb2.mono B1.out.size))
    have B3 := Lib.hid (B2.out.alloc B2.out.size (.cells #[.slice ja jl jc, .slice qa ql qc] 26))
    clear hK hb2
    go_wp2_with (go_at_call 9; refine (awake_any _ (HG.out.1.below B3.out)).mono ?_; rintro e w3 ⟨rfl, hb3⟩)
    go_ret
    exact ⟨rfl, B3.out.trans (hb3.mono B3.out.size)⟩
  · rw [ho] at hp
    have hE : formatE (grOf xs) = 0 := by unfold formatE; rw [validB_mk hV]; rfl
    have hS := format_text hx hV
    generalize grOf xs = G at *
    clear hr ho hx hV
    by_cases hq : formatS G = t
    · have q1 : (t == t) = true := by simp
      go_enter Tryd.func6, Tryd.ntmps6
      go_wp2_with fail
      refine hp.mono ?_
      rintro e w1 ⟨⟨ia, il, ic, pa, pl, pc, rfl, hG⟩, hb1⟩
      have B1 := Lib.hid (hb1.alloc hb1.size (.cells #[.slice ia il ic, .slice pa pl pc] 26))
      have hf := formatG_any ia pa il ic pl pc G _ (hG.alloc (.cells #[.slice ia il ic, .slice pa pl pc] 26)) (HG.out.2.below B1.out)
      rw [hE, hq] at hf
      clear hG hb1 hS hE hq
      go_wp2_with (first | (go_at_call 14; refine hf.mono ?_; rintro e w2 ⟨rfl, hb2⟩; have B2 := Lib.hid (B1.out.trans (hb2.mono B1.out.size)); clear hb2) | (go_at_call 9; refine (awake_any _ (HG.out.1.below B2.out)).mono ?_; rintro e w3 ⟨rfl, hb3⟩))
      go_ret
      exact ⟨rfl, B2.out.trans (hb3.mono B2.out.size)⟩
    · have hq2 : formatS G = t ++ [10] := hS.resolve_left hq
      have q1 : (t ++ [10] == t) = false := by rw [beq_eq_false_iff_ne, ← hq2]; exact hq
      have q2 : (t ++ [10] == t ++ [10]) = true := by simp
      have hadd := fun W => run_string_add_lists (P := Tryd.prog) W t [10] (by omega) (by simp)
      go_enter Tryd.func6, Tryd.ntmps6
      go_wp2_with fail
      refine hp.mono ?_
      rintro e w1 ⟨⟨ia, il, ic, pa, pl, pc, rfl, hG⟩, hb1⟩
      have B1 := Lib.hid (hb1.alloc hb1.size (.cells #[.slice ia il ic, .slice pa pl pc] 26))
      have hf := formatG_any ia pa il ic pl pc G _ (hG.alloc (.cells #[.slice ia il ic, .slice pa pl pc] 26)) (HG.out.2.below B1.out)
      rw [hE, hq2] at hf
      clear hG hb1 hS hE hq hq2
      go_wp2_with (first | (go_at_call 14; refine hf.mono ?_; rintro e w2 ⟨rfl, hb2⟩; have B2 := Lib.hid (B1.out.trans (hb2.mono B1.out.size)); clear hb2) | (go_at_call 9; refine (awake_any _ (HG.out.1.below B2.out)).mono ?_; rintro e w3 ⟨rfl, hb3⟩))
      go_ret
      exact ⟨rfl, B2.out.trans (hb3.mono B2.out.size)⟩

set_option maxRecDepth 100000 in
theorem lifted (os : Os) (started : os.Started) (H : Type) (enc : TypeId × Value → H) :
    ReturnsInHanded {} Tryd.checked os 6 .any (fun w args => (Rows.graphtextWritesBackSpec.pre enc Tryd.prog Tryd.f6 [] false w args ∧ laidMetH Tryd.prog Rows.graphtextWritesBackRow.laid w) ∧ sizedMet enc Tryd.prog Tryd.f6 (OpenSpec.ofChange Rows.graphtextWritesBackSpec) false w args)
      (Rows.graphtextWritesBackSpec.post enc Tryd.prog Tryd.f6 false true false false) := by
  refine shaped_and (C := Tryd.checked) (X := fun w _ => laidMetH Tryd.prog Rows.graphtextWritesBackRow.laid w) (fun _ _ _ hh h => h.of_heap hh) own started (by kernel_rfl) Tryd.func6
    (ChangeSpec.witness_shaped (enc := enc) (C := Tryd.checked) (os := os) (X := fun w _ => laidMetH Tryd.prog Rows.graphtextWritesBackRow.laid w) false (World.laidAll Tryd.prog os Rows.graphtextWritesBackRow.laid) #[.string ⟨#[]⟩] 8 (World.laidAll_os _ _ _)
      (World.shaped_of_ZipB (by kernel_rfl) (by kernel_rfl)) (by kernel_rfl) (by kernel_rfl) (by kernel_rfl)
      (by rw [MakeChecks.laidMetH_plain _ _ _ (by kernel_rfl)]; exact laidMet_laidAll _ (by kernel_rfl) (by kernel_rfl))) ?_
  intro W base args ds gs before hval0 hW hL hsh
  have hval : ∀ (j : Nat) t v, Tryd.f6.params[j]? = some t → args[j]? = some v → Value.okWide Tryd.prog W .any base t v := hval0
  have hW' := hW
  obtain ⟨p, q, hA0, hV, rfl, hfz, hnd⟩ := hW
  have hA : DataW.TrodAll enc Tryd.prog W 0 (fun _ => true) true Tryd.f6.params.toList args.toList ds p := hA0
  rw [Tryd.params6] at hA hval
  obtain ⟨v0, vs0, d0, ds0, p0, q0, hargs, rfl, rfl, h0, r0⟩ := trodAll_cons hA
  obtain ⟨rfl, rfl, rfl⟩ := trodAll_nil r0
  obtain rfl : args = #[v0] := by cases args; simp_all
  obtain ⟨rfl, rfl⟩ := trodVars_none hV
  have k0 := h0
  have lt0 : ∀ x ∈ p0, x.block < W.heap.size := by obtain ⟨m, hm⟩ := k0; exact DataW.trod_lt m _ _ _ hm
  obtain ⟨a0, rfl, rfl, rfl, w0⟩ := Go.ChangeMaps.open_string Tryd.underlying9 (hval 0 9 v0 rfl rfl) h0
  clear hA0 hval0
  rw [MakeChecks.laidMetH_plain _ _ _ (by kernel_rfl)] at hL
  refine (walk W (gl_all hsh hL) a0).mono fun e W' ⟨he, bel⟩ => ?_
  subst he
  exact ⟨_, rfl, _, _, _, [], _, [], hW', trodAll_mk1 (shut_bool Tryd.underlying4 _), (trodAll_cons_mk (Below.trod laidOut (by kernel_rfl) (of_decide_eq_true (by kernel_rfl)) k0 bel lt0) trodAll_mk0), rfl, bel.frame _, fun h => by cases h⟩

theorem over : Rows.graphtextWritesBackRow.holds Tryd.pinned (OpenSpec.ofChange Rows.graphtextWritesBackSpec) :=
  OpenClaim.holds_of_wide 6 Tryd.f6 rfl rfl rfl rfl rfl rfl rfl ⟨rfl, rfl, rfl, rfl, rfl⟩ rfl rfl rfl rfl rfl (by kernel_rfl) Tryd.func6 (by kernel_rfl)
    (of_decide_eq_true (by kernel_rfl)) (by unfold Func.isWrapper; first | (rw [if_pos (by decide +kernel)]; kernel_rfl) | (rw [if_neg (by decide +kernel)]; exact ⟨rfl, rfl⟩))
    (fun os started H enc _ => lifted os started H enc)

theorem proved : Rows.GraphtextWritesBackCardSaid :=
  Claim7.holds_tied_plain_at .later [] Rows.graphtextWritesBackCard.laidKinds true Rows.graphtextWritesBackCard.stood.harness false over (fun _ h => by cases h) (by kernel_rfl) (fun _ h => by cases h) graphtextWritesBack_row_tie rfl ⟨rfl, rfl⟩ (by kernel_rfl) rfl
    (fun f fn hf hfn => by
      obtain rfl : f = 6 := Option.some.inj ((show Tryd.prog.funcNamed "selfstab/selfstablaw02.GraphtextWritesBack" = some 6 by kernel_rfl).symm.trans hf) |>.symm
      obtain rfl : fn = Tryd.f6 := (Option.some.inj (Tryd.func6.symm.trans hfn)).symm
      exact ⟨by kernel_rfl, fun j t ht => by
        rw [Tryd.params6] at ht
        have hm : t ∈ [9] := by simpa using Array.mem_of_getElem? ht
        have hall : ([9].all fun u => !Tryd.prog.wantsStandIn u) = true := by kernel_rfl
        exact (show Tryd.prog.wantsStandIn t = false by simpa using List.all_eq_true.1 hall t hm)⟩)
    (by kernel_rfl)
end lawGraphtextWritesBack
end Go.Proofs.YtahhndhaciijpaaDoor
