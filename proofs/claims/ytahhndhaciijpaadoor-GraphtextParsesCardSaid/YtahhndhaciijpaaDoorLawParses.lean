/- GraphtextParses: for every text, Parse of package graphtext answers what the specification answers; texts of 2,001 to 16,384 bytes, and of more than 16,484, ask the example alone. -/
import Derived.Test.YtahhndhaciijpaaDoorLawT
import Derived.Test.YtahhndhaciijpaaDoorParseR
namespace Go.Proofs.YtahhndhaciijpaaDoor
open Go.ChangeShapes Go.WideShapes Go.ChangeAt Go.RowKit

theorem parseG_out (s : ByteArray) (w : World) (hg : Gl w) : Calls Tryd.prog 10 #[.string s] w fun e w' => OutSays s.data.toList e w' ∧ Below w.heap.size w w' :=
  (parseG_any s w hg).mono fun _ _ h => ⟨parse_out h.1, h.2⟩
theorem parseR_out (s : ByteArray) (w : World) : Calls Tryd.prog 11 #[.string s] w fun e w' => OutSays s.data.toList e w' ∧ Below w.heap.size w w' := by
  by_cases hs : s.size ≤ 16384
  · exact (parseR_short s w hs).mono fun _ _ h => ⟨parse_out h.1, h.2⟩
  · refine (parse_long s w (by omega)).mono ?_
    rintro e w' ⟨rfl, hb⟩
    exact ⟨parse_out (.inl ⟨by simpa using hs, rfl⟩), hb⟩
theorem sameB_self (G : Gr) : sameB G G = true := sameB_mk rfl rfl

namespace lawGraphtextParses
theorem gl_all {W : World} {L : List (String × DataW Unit)} (h : W.ShapedOpen Tryd.prog) (_ : laidMet Tryd.prog L W) : Gl W := gl_of h
set_option maxRecDepth 100000 in
set_option maxHeartbeats 2000000 in
theorem walk (W : World) (hg : Gl W) (s : ByteArray) : Calls Tryd.prog 3 #[.string s] W fun e W' => e = .returned (.bool true) ∧ Below W.heap.size W W' := by
  have HG := Lib.hid hg
  clear hg
  have skip : 2000 < s.size → (s.size ≤ 16384 ∨ 16484 < s.size) → Calls Tryd.prog 3 #[.string s] W fun e W' => e = .returned (.bool true) ∧ Below W.heap.size W W' := fun h1 h2 => by
    have d1 : decide (2000 < (s.size : Int)) = true := by simp; omega
    by_cases h3 : s.size ≤ 16384
    · have d2 : decide ((s.size : Int) ≤ 16384) = true := by simp; omega
      go_enter Tryd.func3, Tryd.ntmps3
      go_wp2_with (go_at_call 9; refine (awake_any _ HG.out).mono ?_; rintro e w1 ⟨rfl, hb1⟩)
      go_ret
      exact ⟨rfl, hb1⟩
    · have d2 : decide ((s.size : Int) ≤ 16384) = false := by simp; omega
      have d3 : decide (16484 < (s.size : Int)) = true := by simp; omega
      go_enter Tryd.func3, Tryd.ntmps3
      go_wp2_with (go_at_call 9; refine (awake_any _ HG.out).mono ?_; rintro e w1 ⟨rfl, hb1⟩)
      go_ret
      exact ⟨rfl, hb1⟩
  have main : (2000 < s.size → 16384 < s.size ∧ s.size ≤ 16484) → Calls Tryd.prog 3 #[.string s] W fun e W' => e = .returned (.bool true) ∧ Below W.heap.size W W' := fun h0 => by
    have hself := sameB_self (outcome s.data.toList).2.2
    have hp := parseG_out s W HG.out
    have hr := fun w => parseR_out s w
    unfold OutSays parseRet at hp hr
    generalize outcome s.data.toList = o at *
    obtain ⟨k, n, G⟩ := o
    by_cases h1 : 2000 < s.size
    all_goals
      first | (have d1 : decide (2000 < (s.size : Int)) = true := by simp; omega) | (have d1 : decide (2000 < (s.size : Int)) = false := by simp; omega)
      have d2 : 2000 < s.size → decide ((s.size : Int) ≤ 16384) = false := fun h => by have := h0 h; simp; omega
      have d3 : 2000 < s.size → decide (16484 < (s.size : Int)) = false := fun h => by have := h0 h; simp; omega
      try (have d4 := d2 h1; have d5 := d3 h1)
      clear d2 d3 h0 skip h1
      go_enter Tryd.func3, Tryd.ntmps3
      go_wp2_with fail
      refine hp.mono ?_
      rintro e w1 ⟨⟨ia, il, ic, pa, pl, pc, rfl, hG⟩, hb1⟩
      have G1 := Lib.hid hG
      have B1 := Lib.hid hb1
      clear hG hb1
      go_wp2_with fail
      refine (hr _).mono ?_
      rintro e w2 ⟨⟨ja, jl, jc, qa, ql, qc, rfl, hK⟩, hb2⟩
      have K2 := Lib.hid hK
      have b0 : w2.cell? ⟨w1.heap.size, 0, none⟩ = some (.slice ia il ic) := (hb2.cell (p := ⟨w1.heap.size, 0, none⟩) (by simp)).trans (by simp [cell_push'])
      have b1 : w2.cell? ⟨w1.heap.size, 1, none⟩ = some (.slice pa pl pc) := (hb2.cell (p := ⟨w1.heap.size, 1, none⟩) (by simp)).trans (by simp [cell_push'])
      have G2 := Lib.hid ((G1.out.alloc (.cells #[.slice ia il ic, .slice pa pl pc] 26)).below hb2)
      have B2 := Lib.hid ((B1.out.alloc B1.out.size (.cells #[.slice ia il ic, .slice pa pl pc] 26)).trans (hb2.mono (by have := B1.out.size; simp; omega)))
      clear hK hb2
      go_wp2_with fail
      have B3 := Lib.hid (B2.out.alloc B2.out.size (.cells #[.slice ja jl jc, .slice qa ql qc] 26))
      refine (awake_any _ (HG.out.below B3.out)).mono ?_
      rintro e w3 ⟨rfl, hb3⟩
      have c0 : w3.cell? ⟨w1.heap.size, 0, none⟩ = some (.slice ia il ic) := (hb3.cell (p := ⟨w1.heap.size, 0, none⟩) (by have := cell_lt b0; simp at this ⊢; omega)).trans (by rw [cell_push', if_neg (Nat.ne_of_lt (cell_lt b0))]; exact b0)
      have c1 : w3.cell? ⟨w1.heap.size, 1, none⟩ = some (.slice pa pl pc) := (hb3.cell (p := ⟨w1.heap.size, 1, none⟩) (by have := cell_lt b0; simp at this ⊢; omega)).trans (by rw [cell_push', if_neg (Nat.ne_of_lt (cell_lt b1))]; exact b1)
      have c2 : w3.cell? ⟨w2.heap.size, 0, none⟩ = some (.slice ja jl jc) := (hb3.cell (p := ⟨w2.heap.size, 0, none⟩) (by simp)).trans (by simp [cell_push'])
      have c3 : w3.cell? ⟨w2.heap.size, 1, none⟩ = some (.slice qa ql qc) := (hb3.cell (p := ⟨w2.heap.size, 1, none⟩) (by simp)).trans (by simp [cell_push'])
      have hsame := same_any ia pa ja qa il ic pl pc jl jc ql qc G G w3 ((G2.out.alloc _).below hb3) ((K2.out.alloc _).below hb3)
      rw [hself] at hsame
      have B4 := Lib.hid (B3.out.trans (hb3.mono B3.out.size))
      clear hb3 b0 b1
      go_wp2_with (go_at_call 12; refine hsame.mono ?_; rintro e w4 ⟨rfl, hb4⟩)
      go_ret
      exact ⟨rfl, B4.out.trans (hb4.mono B4.out.size)⟩
  by_cases h1 : 2000 < s.size
  · by_cases h2 : s.size ≤ 16384 ∨ 16484 < s.size
    · exact skip h1 h2
    · exact main fun _ => by omega
  · exact main fun h => absurd h h1

set_option maxRecDepth 100000 in
theorem lifted (os : Os) (started : os.Started) (H : Type) (enc : TypeId × Value → H) :
    ReturnsInHanded {} Tryd.checked os 3 .any (fun w args => (Rows.graphtextParsesSpec.pre enc Tryd.prog Tryd.f3 [] false w args ∧ laidMetH Tryd.prog Rows.graphtextParsesRow.laid w) ∧ sizedMet enc Tryd.prog Tryd.f3 (OpenSpec.ofChange Rows.graphtextParsesSpec) false w args)
      (Rows.graphtextParsesSpec.post enc Tryd.prog Tryd.f3 false true false false) := by
  refine shaped_and (C := Tryd.checked) (X := fun w _ => laidMetH Tryd.prog Rows.graphtextParsesRow.laid w) (fun _ _ _ hh h => h.of_heap hh) own started (by kernel_rfl) Tryd.func3
    (ChangeSpec.witness_shaped (enc := enc) (C := Tryd.checked) (os := os) (X := fun w _ => laidMetH Tryd.prog Rows.graphtextParsesRow.laid w) false (World.laidAll Tryd.prog os Rows.graphtextParsesRow.laid) #[.string ⟨#[]⟩] 8 (World.laidAll_os _ _ _)
      (World.shaped_of_ZipB (by kernel_rfl) (by kernel_rfl)) (by kernel_rfl) (by kernel_rfl) (by kernel_rfl)
      (by rw [MakeChecks.laidMetH_plain _ _ _ (by kernel_rfl)]; exact laidMet_laidAll _ (by kernel_rfl) (by kernel_rfl))) ?_
  intro W base args ds gs before hval0 hW hL hsh
  have hval : ∀ (j : Nat) t v, Tryd.f3.params[j]? = some t → args[j]? = some v → Value.okWide Tryd.prog W .any base t v := hval0
  have hW' := hW
  obtain ⟨p, q, hA0, hV, rfl, hfz, hnd⟩ := hW
  have hA : DataW.TrodAll enc Tryd.prog W 0 (fun _ => true) true Tryd.f3.params.toList args.toList ds p := hA0
  rw [Tryd.params3] at hA hval
  obtain ⟨v0, vs0, d0, ds0, p0, q0, hargs, rfl, rfl, h0, r0⟩ := trodAll_cons hA
  obtain ⟨rfl, rfl, rfl⟩ := trodAll_nil r0
  obtain rfl : args = #[v0] := by cases args; simp_all
  obtain ⟨rfl, rfl⟩ := trodVars_none hV
  have k0 := h0
  have lt0 : ∀ x ∈ p0, x.block < W.heap.size := by obtain ⟨m, hm⟩ := k0; exact DataW.trod_lt m _ _ _ hm
  obtain ⟨a0, rfl, rfl, rfl, w0⟩ := Go.ChangeMaps.open_string Tryd.underlying9 (hval 0 9 v0 rfl rfl) h0
  clear hA0 hval0
  rw [MakeChecks.laidMetH_plain _ _ _ (by kernel_rfl)] at hL
  refine (walk W (gl_all hsh hL) a0).mono fun e W' ⟨he, bel⟩ => ?_
  subst he
  exact ⟨_, rfl, _, _, _, [], _, [], hW', trodAll_mk1 (shut_bool Tryd.underlying4 _), (trodAll_cons_mk (Below.trod laidOut (by kernel_rfl) (of_decide_eq_true (by kernel_rfl)) k0 bel lt0) trodAll_mk0), rfl, bel.frame _, fun h => by cases h⟩

theorem over : Rows.graphtextParsesRow.holds Tryd.pinned (OpenSpec.ofChange Rows.graphtextParsesSpec) :=
  OpenClaim.holds_of_wide 3 Tryd.f3 rfl rfl rfl rfl rfl rfl rfl ⟨rfl, rfl, rfl, rfl, rfl⟩ rfl rfl rfl rfl rfl (by kernel_rfl) Tryd.func3 (by kernel_rfl)
    (of_decide_eq_true (by kernel_rfl)) (by unfold Func.isWrapper; first | (rw [if_pos (by decide +kernel)]; kernel_rfl) | (rw [if_neg (by decide +kernel)]; exact ⟨rfl, rfl⟩))
    (fun os started H enc _ => lifted os started H enc)

theorem proved : Rows.GraphtextParsesCardSaid :=
  Claim7.holds_tied_plain_at .later [] Rows.graphtextParsesCard.laidKinds true Rows.graphtextParsesCard.stood.harness false over (fun _ h => by cases h) (by kernel_rfl) (fun _ h => by cases h) graphtextParses_row_tie rfl ⟨rfl, rfl⟩ (by kernel_rfl) rfl
    (fun f fn hf hfn => by
      obtain rfl : f = 3 := Option.some.inj ((show Tryd.prog.funcNamed "selfstab/selfstablaw02.GraphtextParses" = some 3 by kernel_rfl).symm.trans hf) |>.symm
      obtain rfl : fn = Tryd.f3 := (Option.some.inj (Tryd.func3.symm.trans hfn)).symm
      exact ⟨by kernel_rfl, fun j t ht => by
        rw [Tryd.params3] at ht
        have hm : t ∈ [9] := by simpa using Array.mem_of_getElem? ht
        have hall : ([9].all fun u => !Tryd.prog.wantsStandIn u) = true := by kernel_rfl
        exact (show Tryd.prog.wantsStandIn t = false by simpa using List.all_eq_true.1 hall t hm)⟩)
    (by kernel_rfl)
end lawGraphtextParses
end Go.Proofs.YtahhndhaciijpaaDoor
