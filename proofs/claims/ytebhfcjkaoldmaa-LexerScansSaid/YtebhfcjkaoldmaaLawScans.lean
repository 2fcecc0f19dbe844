/- LexerScans: for every text, Scan of the program and of the specification answer the same tokens, place and error where the law asks it. No condition. -/
import Derived.Test.YtebhfcjkaoldmaaLexA
import Derived.ChangeMaps5
namespace Go.Proofs.Ytebhfcjkaoldmaa.lawLexerScans
open Go.RowKit Go.ChangeShapes Go.WideShapes Go.Proofs.Ytebhfcjkaoldmaa

set_option maxHeartbeats 2000000 in
theorem walk (W : World) (s : ByteArray) (_ : s.size ≤ maxLen) : Calls Try.prog 3 #[.string s] W fun e W' => e = .returned (.bool true) ∧ Below W.heap.size W W' := by
  by_cases hout : 2000 < s.size ∧ (s.size ≤ 16384 ∨ 16484 < s.size)
  · have d1 : decide (2000 < (s.size : Int)) = true := by simp; omega
    have haw := fun w => awake_any w
    by_cases h2 : s.size ≤ 16384
    · have d2 : decide ((s.size : Int) ≤ 16384) = true := by simp; omega
      go_enter Try.func3, Try.ntmps3
      go_wp2_with (go_at_call 10; refine (haw _).mono ?_; rintro e w1 ⟨rfl, hb⟩)
      go_ret
      exact ⟨rfl, hb⟩
    · have d2 : decide ((s.size : Int) ≤ 16384) = false := by simp; omega
      have d3 : decide (16484 < (s.size : Int)) = true := by simp; omega
      go_enter Try.func3, Try.ntmps3
      go_wp2_with (go_at_call 10; refine (haw _).mono ?_; rintro e w1 ⟨rfl, hb⟩)
      go_ret
      exact ⟨rfl, hb⟩
  · have inside : ∃ b1 b2 b3, decide (2000 < (s.size : Int)) = b1 ∧ decide ((s.size : Int) ≤ 16384) = b2 ∧ decide (16484 < (s.size : Int)) = b3 ∧ (b1 && (b2 || b3)) = false := ⟨_, _, _, rfl, rfl, rfl, by
      rw [Bool.eq_false_iff]
      intro h
      simp at h
      apply hout
      omega⟩
    obtain ⟨b1, b2, b3, d1, d2, d3, hb⟩ := inside
    clear hout
    have haw := fun w => awake_any w
    cases h : scanB s.data.toList with
    | inl x =>
      obtain ⟨p, f⟩ := x
      have hsc := fun w0 => scan_bad_at h w0
      have hscR := fun w0 => scanR_bad_at h w0
      have hsame := fun w0 => same_any none none 0 0 [] w0 ⟨Nat.zero_le _, fun h0 => absurd h0 (by simp)⟩ ⟨Nat.zero_le _, fun h0 => absurd h0 (by simp)⟩
      rw [List.length_nil] at hsame
      clear h
      cases b1
      · go_enter Try.func3, Try.ntmps3
        go_wp2_with (first | (go_at_call 11; refine (hsc _).mono ?_; rintro e w1 ⟨rfl, hb1⟩) | (go_at_call 12; refine (hscR _).mono ?_; rintro e w2 ⟨rfl, hb2⟩) | (go_at_call 10; refine (haw _).mono ?_; rintro e w3 ⟨rfl, hb3⟩) | (go_at_call 13; refine (hsame _).mono ?_; rintro e w4 ⟨rfl, hb4⟩))
        go_ret
        exact ⟨rfl, ((hb1.trans (hb2.mono hb1.size)).trans (hb3.mono (hb1.trans (hb2.mono hb1.size)).size)).trans (hb4.mono ((hb1.trans (hb2.mono hb1.size)).trans (hb3.mono (hb1.trans (hb2.mono hb1.size)).size)).size)⟩
      · cases b2
        · cases b3
          · go_enter Try.func3, Try.ntmps3
            go_wp2_with (first | (go_at_call 11; refine (hsc _).mono ?_; rintro e w1 ⟨rfl, hb1⟩) | (go_at_call 12; refine (hscR _).mono ?_; rintro e w2 ⟨rfl, hb2⟩) | (go_at_call 10; refine (haw _).mono ?_; rintro e w3 ⟨rfl, hb3⟩) | (go_at_call 13; refine (hsame _).mono ?_; rintro e w4 ⟨rfl, hb4⟩))
            go_ret
            exact ⟨rfl, ((hb1.trans (hb2.mono hb1.size)).trans (hb3.mono (hb1.trans (hb2.mono hb1.size)).size)).trans (hb4.mono ((hb1.trans (hb2.mono hb1.size)).trans (hb3.mono (hb1.trans (hb2.mono hb1.size)).size)).size)⟩
          · cases hb
        · cases hb
    | inr ts =>
      have hsc := fun w0 => scan_ok_at h w0
      have hscR := fun w0 => scanR_ok_at h w0
      clear h
      cases b1
      · go_enter Try.func3, Try.ntmps3
        go_wp2_with (first | (go_at_call 11; refine (hsc _).mono ?_; rintro e w1 ⟨⟨a1, c1, rfl, hT1, _⟩, hb1⟩) | (go_at_call 12; refine (hscR _).mono ?_; rintro e w2 ⟨⟨a2, c2, rfl, hT2, _⟩, hb2⟩) | (go_at_call 10; refine (haw _).mono ?_; rintro e w3 ⟨rfl, hb3⟩) | (go_at_call 13; refine (same_any a1 a2 c1 c2 ts _ ((hT1.below hb2 rfl).below hb3 rfl) (hT2.below hb3 rfl)).mono ?_; rintro e w4 ⟨rfl, hb4⟩))
        go_ret
        exact ⟨rfl, ((hb1.trans (hb2.mono hb1.size)).trans (hb3.mono (hb1.trans (hb2.mono hb1.size)).size)).trans (hb4.mono ((hb1.trans (hb2.mono hb1.size)).trans (hb3.mono (hb1.trans (hb2.mono hb1.size)).size)).size)⟩
      · cases b2
        · cases b3
          · go_enter Try.func3, Try.ntmps3
            go_wp2_with (first | (go_at_call 11; refine (hsc _).mono ?_; rintro e w1 ⟨⟨a1, c1, rfl, hT1, _⟩, hb1⟩) | (go_at_call 12; refine (hscR _).mono ?_; rintro e w2 ⟨⟨a2, c2, rfl, hT2, _⟩, hb2⟩) | (go_at_call 10; refine (haw _).mono ?_; rintro e w3 ⟨rfl, hb3⟩) | (go_at_call 13; refine (same_any a1 a2 c1 c2 ts _ ((hT1.below hb2 rfl).below hb3 rfl) (hT2.below hb3 rfl)).mono ?_; rintro e w4 ⟨rfl, hb4⟩))
            go_ret
            exact ⟨rfl, ((hb1.trans (hb2.mono hb1.size)).trans (hb3.mono (hb1.trans (hb2.mono hb1.size)).size)).trans (hb4.mono ((hb1.trans (hb2.mono hb1.size)).trans (hb3.mono (hb1.trans (hb2.mono hb1.size)).size)).size)⟩
          · cases hb
        · cases hb

set_option maxRecDepth 100000 in
theorem lifted (os : Os) (started : os.Started) (H : Type) (enc : TypeId × Value → H) :
    ReturnsInHanded {} Try.checked os 3 .any (Rows.lexerScansSpec.pre6 enc Try.prog Try.f3 Rows.lexerScansRow.domain false) (Rows.lexerScansSpec.post enc Try.prog Try.f3 false true false false) := by
  refine returnsInHanded_of_change (C := Try.checked) own started (by kernel_rfl) Try.func3
    (ChangeSpec.witness6 (enc := enc) (C := Try.checked) false ⟨#[], #[.string ⟨#[]⟩], []⟩ 8 (by kernel_rfl) (by kernel_rfl) (by kernel_rfl) (by kernel_rfl)) ?_
  intro W base args ds gs before hval0 hW hcnd _
  have hval : ∀ (j : Nat) t v, Try.f3.params[j]? = some t → args[j]? = some v → Value.okWide Try.prog W .any base t v := hval0
  have hW' := hW
  obtain ⟨p, q, hA0, hV, rfl, hfz, hnd⟩ := hW
  have hA : DataW.TrodAll enc Try.prog W 0 (fun _ => true) true Try.f3.params.toList args.toList ds p := hA0
  rw [Try.params3] at hA hval
  obtain ⟨v0, vs0, d0, ds0, p0, q0, hargs, rfl, rfl, h0, r0⟩ := trodAll_cons hA
  obtain ⟨rfl, rfl, rfl⟩ := trodAll_nil r0
  obtain rfl : args = #[v0] := by cases args; simp_all
  obtain ⟨rfl, rfl⟩ := trodVars_none hV
  have k0 := h0
  have lt0 : ∀ x ∈ p0, x.block < W.heap.size := by obtain ⟨m, hm⟩ := k0; exact DataW.trod_lt m _ _ _ hm
  obtain ⟨a0, rfl, rfl, rfl, w0⟩ := Go.ChangeMaps.open_string Try.underlying9 (hval 0 9 v0 rfl rfl) h0
  clear hA0 hval0
  refine (walk W a0 w0).mono fun e W' ⟨he, bel⟩ => ?_
  subst he
  exact ⟨_, rfl, _, _, _, [], _, [], hW', trodAll_mk1 (shut_bool Try.underlying4 _), (trodAll_cons_mk (Below.trod laidOut (by kernel_rfl) (of_decide_eq_true (by kernel_rfl)) k0 bel lt0) trodAll_mk0), rfl, bel.frame _, fun h => by cases h⟩

theorem over : Rows.lexerScansRow.holds Try.pinned (OpenSpec.ofChange Rows.lexerScansSpec) :=
  OpenClaim.holds_of_wide 3 Try.f3 rfl rfl rfl rfl rfl rfl rfl ⟨rfl, rfl, rfl, rfl, rfl⟩ rfl rfl rfl rfl rfl (by kernel_rfl) Try.func3 (by kernel_rfl)
    (of_decide_eq_true (by kernel_rfl)) (by unfold Func.isWrapper; first | (rw [if_pos (by decide +kernel)]; kernel_rfl) | (rw [if_neg (by decide +kernel)]; exact ⟨rfl, rfl⟩))
    (fun os started H enc _ => lifted os started H enc)

theorem proved : Rows.LexerScansSaid := over
end Go.Proofs.Ytebhfcjkaoldmaa.lawLexerScans
