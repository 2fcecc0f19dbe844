/- LexerKnowsWords: for every word, Reserved and Name of the program and of the specification answer the same, and no word is both. No condition. -/
import Derived.Test.YtebhfcjkaoldmaaLexA
import Derived.Test.YtebhfcjkaoldmaaLexN
import Derived.ChangeMaps5
namespace Go.Proofs.Ytebhfcjkaoldmaa.lawLexerKnowsWords
open Go.RowKit Go.ChangeShapes Go.WideShapes Go.Proofs.Ytebhfcjkaoldmaa

theorem name_res {l : Bytes} (h : nameF l = true) : resF l = false := by
  cases l with
  | nil => cases h
  | cons x r =>
    unfold nameF at h
    simp at h
    exact h.2
set_option maxHeartbeats 2000000 in
theorem walk (W : World) (s : ByteArray) (_ : s.size ≤ maxLen) : Calls Try.prog 5 #[.string s] W fun e W' => e = .returned (.bool true) ∧ Below W.heap.size W W' := by
  have haw := fun w => awake_any w
  by_cases h1 : 100 < s.size
  · go_enter Try.func5, Try.ntmps5
    go_wp2_with (go_at_call 10; refine (haw _).mono ?_; rintro e w1 ⟨rfl, hb⟩)
    go_ret
    exact ⟨rfl, hb⟩
  have hr := fun w => res_any s w
  have hrR := fun w => resR_any s w
  have hn := fun w => name_any s w
  have hnR := fun w => nameR_any s w
  have hx := @name_res s.data.toList
  cases h2 : resF s.data.toList <;> cases h3 : nameF s.data.toList <;> rw [h2] at hr hrR hx <;> rw [h3] at hn hnR hx
  · clear h2 h3 hx
    go_enter Try.func5, Try.ntmps5
    go_wp2_with (first | (go_at_call 10; refine (haw _).mono ?_; rintro e w1 ⟨rfl, hb⟩) | (go_at_call 14; refine (hr _).mono ?_; rintro e w2 ⟨rfl, h⟩; subst h) | (go_at_call 15; refine (hrR _).mono ?_; rintro e w2 ⟨rfl, h⟩; subst h) | (go_at_call 16; refine (hn _).mono ?_; rintro e w2 ⟨rfl, h⟩; subst h) | (go_at_call 17; refine (hnR _).mono ?_; rintro e w2 ⟨rfl, h⟩; subst h))
    go_ret
    exact ⟨rfl, hb⟩
  · clear h2 h3 hx
    go_enter Try.func5, Try.ntmps5
    go_wp2_with (first | (go_at_call 10; refine (haw _).mono ?_; rintro e w1 ⟨rfl, hb⟩) | (go_at_call 14; refine (hr _).mono ?_; rintro e w2 ⟨rfl, h⟩; subst h) | (go_at_call 15; refine (hrR _).mono ?_; rintro e w2 ⟨rfl, h⟩; subst h) | (go_at_call 16; refine (hn _).mono ?_; rintro e w2 ⟨rfl, h⟩; subst h) | (go_at_call 17; refine (hnR _).mono ?_; rintro e w2 ⟨rfl, h⟩; subst h))
    go_ret
    exact ⟨rfl, hb⟩
  · clear h2 h3 hx
    go_enter Try.func5, Try.ntmps5
    go_wp2_with (first | (go_at_call 10; refine (haw _).mono ?_; rintro e w1 ⟨rfl, hb⟩) | (go_at_call 14; refine (hr _).mono ?_; rintro e w2 ⟨rfl, h⟩; subst h) | (go_at_call 15; refine (hrR _).mono ?_; rintro e w2 ⟨rfl, h⟩; subst h) | (go_at_call 16; refine (hn _).mono ?_; rintro e w2 ⟨rfl, h⟩; subst h) | (go_at_call 17; refine (hnR _).mono ?_; rintro e w2 ⟨rfl, h⟩; subst h))
    go_ret
    exact ⟨rfl, hb⟩
  · cases hx rfl

set_option maxRecDepth 100000 in
theorem lifted (os : Os) (started : os.Started) (H : Type) (enc : TypeId × Value → H) :
    ReturnsInHanded {} Try.checked os 5 .any (Rows.lexerKnowsWordsSpec.pre6 enc Try.prog Try.f5 Rows.lexerKnowsWordsRow.domain false) (Rows.lexerKnowsWordsSpec.post enc Try.prog Try.f5 false true false false) := by
  refine returnsInHanded_of_change (C := Try.checked) own started (by kernel_rfl) Try.func5
    (ChangeSpec.witness6 (enc := enc) (C := Try.checked) false ⟨#[], #[.string ⟨#[]⟩], []⟩ 8 (by kernel_rfl) (by kernel_rfl) (by kernel_rfl) (by kernel_rfl)) ?_
  intro W base args ds gs before hval0 hW hcnd _
  have hval : ∀ (j : Nat) t v, Try.f5.params[j]? = some t → args[j]? = some v → Value.okWide Try.prog W .any base t v := hval0
  have hW' := hW
  obtain ⟨p, q, hA0, hV, rfl, hfz, hnd⟩ := hW
  have hA : DataW.TrodAll enc Try.prog W 0 (fun _ => true) true Try.f5.params.toList args.toList ds p := hA0
  rw [Try.params5] at hA hval
  obtain ⟨v0, vs0, d0, ds0, p0, q0, hargs, rfl, rfl, h0, r0⟩ := trodAll_cons hA
  obtain ⟨rfl, rfl, rfl⟩ := trodAll_nil r0
  obtain rfl : args = #[v0] := by cases args; simp_all
  obtain ⟨rfl, rfl⟩ := trodVars_none hV
  have k0 := h0
  have lt0 : ∀ x ∈ p0, x.block < W.heap.size := by obtain ⟨m, hm⟩ := k0; exact DataW.trod_lt m _ _ _ hm
  obtain ⟨a0, rfl, rfl, rfl, w0⟩ := Go.ChangeMaps.open_string Try.underlying9 (hval 0 9 v0 rfl rfl) h0
  clear hA0 hval0
  refine (walk W a0 w0).mono fun e W' ⟨he, bel⟩ => ?_
  subst he
  exact ⟨_, rfl, _, _, _, [], _, [], hW', trodAll_mk1 (shut_bool Try.underlying4 _), (trodAll_cons_mk (Below.trod laidOut (by kernel_rfl) (of_decide_eq_true (by kernel_rfl)) k0 bel lt0) trodAll_mk0), rfl, bel.frame _, fun h => by cases h⟩

theorem over : Rows.lexerKnowsWordsRow.holds Try.pinned (OpenSpec.ofChange Rows.lexerKnowsWordsSpec) :=
  OpenClaim.holds_of_wide 5 Try.f5 rfl rfl rfl rfl rfl rfl rfl ⟨rfl, rfl, rfl, rfl, rfl⟩ rfl rfl rfl rfl rfl (by kernel_rfl) Try.func5 (by kernel_rfl)
    (of_decide_eq_true (by kernel_rfl)) (by unfold Func.isWrapper; first | (rw [if_pos (by decide +kernel)]; kernel_rfl) | (rw [if_neg (by decide +kernel)]; exact ⟨rfl, rfl⟩))
    (fun os started H enc _ => lifted os started H enc)

theorem proved : Rows.LexerKnowsWordsSaid := over
end Go.Proofs.Ytebhfcjkaoldmaa.lawLexerKnowsWords
