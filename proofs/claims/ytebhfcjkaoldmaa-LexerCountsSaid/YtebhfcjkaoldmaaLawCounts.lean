/- LexerCounts: for every word and number, Scan of the program and of the specification answer the same for the word so often repeated. No condition. -/
import Derived.Test.YtebhfcjkaoldmaaLexA
import Derived.ChangeMaps5
namespace Go.Proofs.Ytebhfcjkaoldmaa.lawLexerCounts
open Go.RowKit Go.ChangeShapes Go.WideShapes Go.Proofs.Ytebhfcjkaoldmaa

/-- what both scans answer, and Same of it -/
def Both (T : Bytes) : Prop :=
  (∃ p f : Nat, scanB T = .inl (p, f)) ∨ ∃ ts, scanB T = .inr ts
theorem both (T : Bytes) : Both T := by
  cases h : scanB T with
  | inl x => exact .inl ⟨x.1, x.2, h⟩
  | inr ts => exact .inr ⟨ts, h⟩
theorem same_nil (w0 : World) : Calls Try.prog 13 #[.slice none 0 0, .slice none 0 0] w0 fun e w' => e = .returned (.bool true) ∧ Below w0.heap.size w0 w' :=
  same_any none none 0 0 [] w0 ⟨Nat.zero_le _, fun h0 => absurd h0 (by simp)⟩ ⟨Nat.zero_le _, fun h0 => absurd h0 (by simp)⟩
set_option maxRecDepth 100000 in
set_option maxHeartbeats 4000000 in
theorem walk (W : World) (s : ByteArray) (_ : s.size ≤ maxLen) (n : Int) (wn : (Lit.int .u16 n).wf = true) : Calls Try.prog 4 #[.string s, .int .u16 n] W fun e W' => e = .returned (.bool true) ∧ Below W.heap.size W W' := by
  have haw := fun w => awake_any w
  by_cases h1 : 3 < s.size
  · go_enter Try.func4, Try.ntmps4
    go_wp2_with (go_at_call 10; refine (haw _).mono ?_; rintro e w1 ⟨rfl, hb1⟩)
    go_ret
    exact ⟨rfl, hb1⟩
  obtain ⟨n, rfl⟩ : ∃ k : Nat, n = k := by
    simp [Lit.wf, IntKind.min, IntKind.signed] at wn
    exact ⟨n.toNat, by omega⟩
  have hn : n < 65536 := by
    simp [Lit.wf, IntKind.max, IntKind.signed, IntKind.bits] at wn
    omega
  clear wn
  obtain ⟨u, rfl⟩ : ∃ u : Bytes, s = ⟨u.toArray⟩ := ⟨s.data.toList, rfl⟩
  have hu : u.length ≤ 3 := by
    have : (ByteArray.mk u.toArray).size = u.length := by simp [ByteArray.size]
    omega
  clear h1
  have hu1 : (u.length : Int) ≤ 8388608 := by omega
  have add1 := fun W => run_string_add_lists (P := Try.prog) W u [32] hu1 (by decide)
  have hsize : ∀ T : Bytes, (ByteArray.mk T.toArray).size = T.length := fun T => by simp [ByteArray.size]
  go_enter Try.func4, Try.ntmps4
  go_wp2
  go_loop [5, 6] (fun q t => ∃ (T : Bytes) (k : Nat), q = .string ⟨T.toArray⟩ ∧ T.length ≤ 16394 ∧ t = .int .i64 k ∧ k ≤ 4200) (fun _ t => 4200 - (intOf t).toNat)
  case atStart => exact ⟨[], 0, rfl, by simp, rfl, by omega⟩
  case round =>
    obtain ⟨T, k, rfl, hT, rfl, hk⟩ := hrel
    by_cases hlt : (k : Int) < (n : Int) % 4200
    · have hT1 : (T.length : Int) ≤ 8388608 := by omega
      have add2 := fun W => run_string_add_lists (P := Try.prog) W T (u ++ [32]) hT1 (by simp; omega)
      obtain ⟨V, hV⟩ : ∃ V, T ++ (u ++ [32]) = V := ⟨_, rfl⟩
      have hVl : V.length ≤ 16398 := by rw [← hV]; simp; omega
      rw [hV] at add2
      clear hV
      by_cases hbig : 16394 < V.length
      · have db : decide (16394 < (V.length : Int)) = true := by simp; omega
        rcases both V with ⟨p, f, h⟩ | ⟨ts, h⟩
        · go_wp2_with (first | (go_at_call 11; refine (scan_bad_at (s := ⟨V.toArray⟩) h _).mono ?_; rintro e w1 ⟨rfl, hb1⟩) | (go_at_call 12; refine (scanR_bad_at (s := ⟨V.toArray⟩) h _).mono ?_; rintro e w2 ⟨rfl, hb2⟩) | (go_at_call 10; refine (haw _).mono ?_; rintro e w3 ⟨rfl, hb3⟩) | (go_at_call 13; refine (same_nil _).mono ?_; rintro e w4 ⟨rfl, hb4⟩))
          go_ret
          exact ⟨rfl, ((hb1.trans (hb2.mono hb1.size)).trans (hb3.mono (hb1.trans (hb2.mono hb1.size)).size)).trans (hb4.mono ((hb1.trans (hb2.mono hb1.size)).trans (hb3.mono (hb1.trans (hb2.mono hb1.size)).size)).size)⟩
        · go_wp2_with (first | (go_at_call 11; refine (scan_ok_at (s := ⟨V.toArray⟩) h _).mono ?_; rintro e w1 ⟨⟨a1, c1, rfl, hT1, _⟩, hb1⟩) | (go_at_call 12; refine (scanR_ok_at (s := ⟨V.toArray⟩) h _).mono ?_; rintro e w2 ⟨⟨a2, c2, rfl, hT2, _⟩, hb2⟩) | (go_at_call 10; refine (haw _).mono ?_; rintro e w3 ⟨rfl, hb3⟩) | (go_at_call 13; refine (same_any a1 a2 c1 c2 ts _ ((hT1.below hb2 rfl).below hb3 rfl) (hT2.below hb3 rfl)).mono ?_; rintro e w4 ⟨rfl, hb4⟩))
          go_ret
          exact ⟨rfl, ((hb1.trans (hb2.mono hb1.size)).trans (hb3.mono (hb1.trans (hb2.mono hb1.size)).size)).trans (hb4.mono ((hb1.trans (hb2.mono hb1.size)).trans (hb3.mono (hb1.trans (hb2.mono hb1.size)).size)).size)⟩
      · have db : decide (16394 < (V.length : Int)) = false := by simp; omega
        go_wp2
        go_round
        case rel => exact ⟨V, k + 1, rfl, by omega, by go_num, by omega⟩
        case measure => simp [intOf]; omega
    · rcases both T with ⟨p, f, h⟩ | ⟨ts, h⟩
      · go_wp2_with (first | (go_at_call 11; refine (scan_bad_at (s := ⟨T.toArray⟩) h _).mono ?_; rintro e w1 ⟨rfl, hb1⟩) | (go_at_call 12; refine (scanR_bad_at (s := ⟨T.toArray⟩) h _).mono ?_; rintro e w2 ⟨rfl, hb2⟩) | (go_at_call 10; refine (haw _).mono ?_; rintro e w3 ⟨rfl, hb3⟩) | (go_at_call 13; refine (same_nil _).mono ?_; rintro e w4 ⟨rfl, hb4⟩))
        go_ret
        exact ⟨rfl, ((hb1.trans (hb2.mono hb1.size)).trans (hb3.mono (hb1.trans (hb2.mono hb1.size)).size)).trans (hb4.mono ((hb1.trans (hb2.mono hb1.size)).trans (hb3.mono (hb1.trans (hb2.mono hb1.size)).size)).size)⟩
      · go_wp2_with (first | (go_at_call 11; refine (scan_ok_at (s := ⟨T.toArray⟩) h _).mono ?_; rintro e w1 ⟨⟨a1, c1, rfl, hT1, _⟩, hb1⟩) | (go_at_call 12; refine (scanR_ok_at (s := ⟨T.toArray⟩) h _).mono ?_; rintro e w2 ⟨⟨a2, c2, rfl, hT2, _⟩, hb2⟩) | (go_at_call 10; refine (haw _).mono ?_; rintro e w3 ⟨rfl, hb3⟩) | (go_at_call 13; refine (same_any a1 a2 c1 c2 ts _ ((hT1.below hb2 rfl).below hb3 rfl) (hT2.below hb3 rfl)).mono ?_; rintro e w4 ⟨rfl, hb4⟩))
        go_ret
        exact ⟨rfl, ((hb1.trans (hb2.mono hb1.size)).trans (hb3.mono (hb1.trans (hb2.mono hb1.size)).size)).trans (hb4.mono ((hb1.trans (hb2.mono hb1.size)).trans (hb3.mono (hb1.trans (hb2.mono hb1.size)).size)).size)⟩

set_option maxRecDepth 100000 in
theorem lifted (os : Os) (started : os.Started) (H : Type) (enc : TypeId × Value → H) :
    ReturnsInHanded {} Try.checked os 4 .any (Rows.lexerCountsSpec.pre6 enc Try.prog Try.f4 Rows.lexerCountsRow.domain false) (Rows.lexerCountsSpec.post enc Try.prog Try.f4 false true false false) := by
  refine returnsInHanded_of_change (C := Try.checked) own started (by kernel_rfl) Try.func4
    (ChangeSpec.witness6 (enc := enc) (C := Try.checked) false ⟨#[], #[.string ⟨#[]⟩, .int .u16 0], []⟩ 8 (by kernel_rfl) (by kernel_rfl) (by kernel_rfl) (by kernel_rfl)) ?_
  intro W base args ds gs before hval0 hW hcnd _
  have hval : ∀ (j : Nat) t v, Try.f4.params[j]? = some t → args[j]? = some v → Value.okWide Try.prog W .any base t v := hval0
  have hW' := hW
  obtain ⟨p, q, hA0, hV, rfl, hfz, hnd⟩ := hW
  have hA : DataW.TrodAll enc Try.prog W 0 (fun _ => true) true Try.f4.params.toList args.toList ds p := hA0
  rw [Try.params4] at hA hval
  obtain ⟨v0, vs0, d0, ds0, p0, q0, hargs, rfl, rfl, h0, r0⟩ := trodAll_cons hA
  obtain ⟨v1, vs1, d1, ds1, p1, q1, rfl, rfl, rfl, h1, r1⟩ := trodAll_cons r0
  obtain ⟨rfl, rfl, rfl⟩ := trodAll_nil r1
  obtain rfl : args = #[v0, v1] := by cases args; simp_all
  obtain ⟨rfl, rfl⟩ := trodVars_none hV
  have k0 := h0
  have lt0 : ∀ x ∈ p0, x.block < W.heap.size := by obtain ⟨m, hm⟩ := k0; exact DataW.trod_lt m _ _ _ hm
  obtain ⟨a0, rfl, rfl, rfl, w0⟩ := Go.ChangeMaps.open_string Try.underlying9 (hval 0 9 v0 rfl rfl) h0
  have k1 := h1
  have lt1 : ∀ x ∈ p1, x.block < W.heap.size := by obtain ⟨m, hm⟩ := k1; exact DataW.trod_lt m _ _ _ hm
  obtain ⟨a1, rfl, rfl, rfl, w1⟩ := open_int Try.underlying29 (hval 1 29 v1 rfl rfl) h1
  clear hA0 hval0
  refine (walk W a0 w0 a1 w1).mono fun e W' ⟨he, bel⟩ => ?_
  subst he
  exact ⟨_, rfl, _, _, _, [], _, [], hW', trodAll_mk1 (shut_bool Try.underlying4 _), (trodAll_cons_mk (Below.trod laidOut (by kernel_rfl) (of_decide_eq_true (by kernel_rfl)) k0 bel lt0) (trodAll_cons_mk (Below.trod laidOut (by kernel_rfl) (of_decide_eq_true (by kernel_rfl)) k1 bel lt1) trodAll_mk0)), rfl, bel.frame _, fun h => by cases h⟩

theorem over : Rows.lexerCountsRow.holds Try.pinned (OpenSpec.ofChange Rows.lexerCountsSpec) :=
  OpenClaim.holds_of_wide 4 Try.f4 rfl rfl rfl rfl rfl rfl rfl ⟨rfl, rfl, rfl, rfl, rfl⟩ rfl rfl rfl rfl rfl (by kernel_rfl) Try.func4 (by kernel_rfl)
    (of_decide_eq_true (by kernel_rfl)) (by unfold Func.isWrapper; first | (rw [if_pos (by decide +kernel)]; kernel_rfl) | (rw [if_neg (by decide +kernel)]; exact ⟨rfl, rfl⟩))
    (fun os started H enc _ => lifted os started H enc)

theorem proved : Rows.LexerCountsSaid := over
end Go.Proofs.Ytebhfcjkaoldmaa.lawLexerCounts
