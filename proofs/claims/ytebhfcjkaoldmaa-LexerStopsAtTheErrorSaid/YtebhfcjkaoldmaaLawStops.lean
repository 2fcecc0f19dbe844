/- LexerStopsAtTheError: for every two texts of at most 2,000 and 200 bytes, the text before the place of an error has no error, and its tokens do not depend on what follows. No condition. -/
import Derived.Test.YtebhfcjkaoldmaaLexApp
import Derived.ChangeMaps5
namespace Go.Proofs.Ytebhfcjkaoldmaa.lawLexerStopsAtTheError
open Go.RowKit Go.ChangeShapes Go.WideShapes Go.Proofs.Ytebhfcjkaoldmaa

theorem tokAt_front {w : World} {a : Option Addr} {ts us : List Tok} (h : TokAt w a (ts ++ us)) : TokAt w a ts := by
  refine ⟨by have := h.size; rw [List.length_append] at this; omega, fun h0 => ?_⟩
  obtain ⟨b, ha, hlt, hc⟩ := h.row (by rw [List.length_append]; omega)
  refine ⟨b, ha, hlt, fun i hi => ?_⟩
  have e : tkA (ts ++ us) i = tkA ts i := by
    unfold tkA
    simp [List.getD, List.getElem?_append_left hi]
  have := hc i (by rw [List.length_append]; omega)
  rw [e] at this
  exact this
theorem data_app (a b : ByteArray) : (a ++ b).data.toList = a.data.toList ++ b.data.toList := by
  rw [ByteArray.data_append, Array.toList_append]
theorem cat2 (s m : ByteArray) : ((s ++ ⟨#[32, 10]⟩) ++ m).data.toList = s.data.toList ++ 32 :: (10 :: m.data.toList) := by
  rw [data_app, data_app]
  simp
theorem cat1 (s m : ByteArray) : ((s ++ ⟨#[32]⟩) ++ m).data.toList = s.data.toList ++ 32 :: m.data.toList := by
  rw [data_app, data_app]
  simp
theorem front_list (s : ByteArray) (p : Nat) : (s.extract 0 p).data.toList = s.data.toList.take p := by
  rw [ByteArray.data_extract, Array.toList_extract]
  simp
set_option maxRecDepth 100000 in
set_option maxHeartbeats 4000000 in
theorem walk (W : World) (s : ByteArray) (_ : s.size ≤ maxLen) (m : ByteArray) (_ : m.size ≤ maxLen) : Calls Try.prog 9 #[.string s, .string m] W fun e W' => e = .returned (.bool true) ∧ Below W.heap.size W W' := by
  have haw := fun w => awake_any w
  by_cases h1 : 2000 < s.size
  · have d1 : decide (2000 < (s.size : Int)) = true := by simp; omega
    go_enter Try.func9, Try.ntmps9
    go_wp2_with (go_at_call 10; refine (haw _).mono ?_; rintro e w1 ⟨rfl, hb1⟩)
    go_ret
    exact ⟨rfl, hb1⟩
  have d1 : decide (2000 < (s.size : Int)) = false := by simp; omega
  by_cases h2 : 200 < m.size
  · have d2 : decide (200 < (m.size : Int)) = true := by simp; omega
    go_enter Try.func9, Try.ntmps9
    go_wp2_with (go_at_call 10; refine (haw _).mono ?_; rintro e w1 ⟨rfl, hb1⟩)
    go_ret
    exact ⟨rfl, hb1⟩
  have d2 : decide (200 < (m.size : Int)) = false := by simp; omega
  have hs1 : (s.size : Int) ≤ 2000 := by omega
  have hm1 : (m.size : Int) ≤ 200 := by omega
  have hz2 : (s ++ (⟨#[32, 10]⟩ : ByteArray)).size = s.size + 2 := by rw [ByteArray.size_append]; rfl
  have hz1 : (s ++ (⟨#[32]⟩ : ByteArray)).size = s.size + 1 := by rw [ByteArray.size_append]; rfl
  have add1 := fun W => run_string_add (P := Try.prog) W s ⟨#[32, 10]⟩ (by omega) (by decide)
  have add2 := fun W => run_string_add (P := Try.prog) W (s ++ ⟨#[32, 10]⟩) m (by omega) (by omega)
  have add3 := fun W => run_string_add (P := Try.prog) W s ⟨#[32]⟩ (by omega) (by decide)
  have add4 := fun W => run_string_add (P := Try.prog) W (s ++ ⟨#[32]⟩) m (by omega) (by omega)
  clear hz1 hz2
  cases h : scanB s.data.toList with
  | inr ts =>
    have hsc := fun w0 => scan_ok_at h w0
    have hmore := scan_more_ok (b := 32) (m := 10 :: m.data.toList) h rfl (by simp; omega)
    rw [← cat2] at hmore
    have hn := (scan_run h).2.1
    clear h add3 add4
    rcases hmore with ⟨⟨p, f⟩, h3⟩ | ⟨us, h3⟩
    · have hsc2 := fun w0 => scan_bad_at h3 w0
      have hf : ((f : Int) != 0) = true := by
        have := scan_errs h3
        simp
        omega
      clear h3
      go_enter Try.func9, Try.ntmps9
      go_wp2_with (first | (go_at_call 11; (with_reducible refine (hsc _).mono ?_); rintro e w1 ⟨⟨a1, c1, rfl, hT1, _⟩, hb1⟩) | (go_at_call 11; (with_reducible refine (hsc2 _).mono ?_); rintro e w2 ⟨rfl, hb2⟩) | (go_at_call 10; refine (haw _).mono ?_; rintro e w3 ⟨rfl, hb3⟩))
      go_ret
      exact ⟨rfl, (hb1.trans (hb2.mono hb1.size)).trans (hb3.mono (hb1.trans (hb2.mono hb1.size)).size)⟩
    · have hsc2 := fun w0 => scan_ok_at h3 w0
      have hge : decide ((ts.length : Int) ≤ ((ts ++ us).length : Nat)) = true := by simp; omega
      have hn2 := (scan_run h3).2.1
      clear h3
      have hLU : ts.length ≤ (ts ++ us).length := by simp
      obtain ⟨L, hL⟩ : ∃ L, (ts ++ us).length = L := ⟨_, rfl⟩
      have hsc3 : ∀ w0, Calls Try.prog 11 #[.string ((s ++ ⟨#[32, 10]⟩) ++ m)] w0 fun e w' => (∃ a c, e = .returned (.tuple #[.slice a L c, .int .i64 0, .int .i64 0]) ∧ TokAt w' a ts ∧ L ≤ c) ∧ Below w0.heap.size w0 w' := fun w0 => (hsc2 w0).mono fun e w' ⟨⟨a, c, he, hT, hc⟩, hb⟩ => ⟨⟨a, c, by rw [he, hL], tokAt_front hT, by omega⟩, hb⟩
      rw [hL] at hge hLU hn2
      clear hsc2 hL
      have hge2 : (ts.length : Int) ≤ L := by omega
      go_enter Try.func9, Try.ntmps9
      go_wp2_with (first | (go_at_call 11; (with_reducible refine (hsc _).mono ?_); rintro e w1 ⟨⟨a1, c1, rfl, hT1, _⟩, hb1⟩) | (go_at_call 11; (with_reducible refine (hsc3 _).mono ?_); rintro e w2 ⟨⟨a2, c2, rfl, hT2, hc2⟩, hb2⟩; have hc3 : (ts.length : Int) ≤ c2 := (by omega)) | (go_at_call 10; refine (haw _).mono ?_; rintro e w3 ⟨rfl, hb3⟩) | (go_at_call 13; refine (same_any _ _ _ _ ts _ (hT2.below hb3 rfl) ((hT1.below hb2 rfl).below hb3 rfl)).mono ?_; rintro e w4 ⟨rfl, hb4⟩))
      go_ret
      exact ⟨rfl, ((hb1.trans (hb2.mono hb1.size)).trans (hb3.mono (hb1.trans (hb2.mono hb1.size)).size)).trans (hb4.mono ((hb1.trans (hb2.mono hb1.size)).trans (hb3.mono (hb1.trans (hb2.mono hb1.size)).size)).size)⟩
  | inl x =>
    obtain ⟨p, f⟩ := x
    have hsc := fun w0 => scan_bad_at h w0
    obtain ⟨hp, ⟨ts, h3⟩, h4⟩ := scan_more_bad (b := 32) (m := m.data.toList) h rfl (by simp; omega)
    rw [← front_list] at h3
    rw [← cat1] at h4
    simp at hp
    have hsc2 := fun w0 => scan_ok_at h3 w0
    have hsc3 := fun w0 => scan_bad_at h4 w0
    have hf : ((f : Int) == 0) = false := by
      have := scan_errs h
      simp
      omega
    have hps : (p : Int) < s.size := by omega
    have dp : decide ((s.size : Int) ≤ p) = false := by simp; omega
    have dp0 : decide ((p : Int) < 0) = false := by simp
    clear h h3 h4 add1 add2
    go_enter Try.func9, Try.ntmps9
    go_wp2_with (first | (go_at_call 11; (with_reducible refine (hsc _).mono ?_); rintro e w1 ⟨rfl, hb1⟩) | (go_at_call 11; (with_reducible refine (hsc2 _).mono ?_); rintro e w2 ⟨⟨a2, c2, rfl, _, _⟩, hb2⟩) | (go_at_call 11; (with_reducible refine (hsc3 _).mono ?_); rintro e w3 ⟨rfl, hb3⟩) | (go_at_call 10; refine (haw _).mono ?_; rintro e w4 ⟨rfl, hb4⟩))
    go_ret
    exact ⟨rfl, ((hb1.trans (hb2.mono hb1.size)).trans (hb3.mono (hb1.trans (hb2.mono hb1.size)).size)).trans (hb4.mono ((hb1.trans (hb2.mono hb1.size)).trans (hb3.mono (hb1.trans (hb2.mono hb1.size)).size)).size)⟩

set_option maxRecDepth 100000 in
theorem lifted (os : Os) (started : os.Started) (H : Type) (enc : TypeId × Value → H) :
    ReturnsInHanded {} Try.checked os 9 .any (Rows.lexerStopsAtTheErrorSpec.pre6 enc Try.prog Try.f9 Rows.lexerStopsAtTheErrorRow.domain false) (Rows.lexerStopsAtTheErrorSpec.post enc Try.prog Try.f9 false true false false) := by
  refine returnsInHanded_of_change (C := Try.checked) own started (by kernel_rfl) Try.func9
    (ChangeSpec.witness6 (enc := enc) (C := Try.checked) false ⟨#[], #[.string ⟨#[]⟩, .string ⟨#[]⟩], []⟩ 8 (by kernel_rfl) (by kernel_rfl) (by kernel_rfl) (by kernel_rfl)) ?_
  intro W base args ds gs before hval0 hW hcnd _
  have hval : ∀ (j : Nat) t v, Try.f9.params[j]? = some t → args[j]? = some v → Value.okWide Try.prog W .any base t v := hval0
  have hW' := hW
  obtain ⟨p, q, hA0, hV, rfl, hfz, hnd⟩ := hW
  have hA : DataW.TrodAll enc Try.prog W 0 (fun _ => true) true Try.f9.params.toList args.toList ds p := hA0
  rw [Try.params9] at hA hval
  obtain ⟨v0, vs0, d0, ds0, p0, q0, hargs, rfl, rfl, h0, r0⟩ := trodAll_cons hA
  obtain ⟨v1, vs1, d1, ds1, p1, q1, rfl, rfl, rfl, h1, r1⟩ := trodAll_cons r0
  obtain ⟨rfl, rfl, rfl⟩ := trodAll_nil r1
  obtain rfl : args = #[v0, v1] := by cases args; simp_all
  obtain ⟨rfl, rfl⟩ := trodVars_none hV
  have k0 := h0
  have lt0 : ∀ x ∈ p0, x.block < W.heap.size := by obtain ⟨m, hm⟩ := k0; exact DataW.trod_lt m _ _ _ hm
  obtain ⟨a0, rfl, rfl, rfl, w0⟩ := Go.ChangeMaps.open_string Try.underlying9 (hval 0 9 v0 rfl rfl) h0
  have k1 := h1
  have lt1 : ∀ x ∈ p1, x.block < W.heap.size := by obtain ⟨m, hm⟩ := k1; exact DataW.trod_lt m _ _ _ hm
  obtain ⟨a1, rfl, rfl, rfl, w1⟩ := Go.ChangeMaps.open_string Try.underlying9 (hval 1 9 v1 rfl rfl) h1
  clear hA0 hval0
  refine (walk W a0 w0 a1 w1).mono fun e W' ⟨he, bel⟩ => ?_
  subst he
  exact ⟨_, rfl, _, _, _, [], _, [], hW', trodAll_mk1 (shut_bool Try.underlying4 _), (trodAll_cons_mk (Below.trod laidOut (by kernel_rfl) (of_decide_eq_true (by kernel_rfl)) k0 bel lt0) (trodAll_cons_mk (Below.trod laidOut (by kernel_rfl) (of_decide_eq_true (by kernel_rfl)) k1 bel lt1) trodAll_mk0)), rfl, bel.frame _, fun h => by cases h⟩

theorem over : Rows.lexerStopsAtTheErrorRow.holds Try.pinned (OpenSpec.ofChange Rows.lexerStopsAtTheErrorSpec) :=
  OpenClaim.holds_of_wide 9 Try.f9 rfl rfl rfl rfl rfl rfl rfl ⟨rfl, rfl, rfl, rfl, rfl⟩ rfl rfl rfl rfl rfl (by kernel_rfl) Try.func9 (by kernel_rfl)
    (of_decide_eq_true (by kernel_rfl)) (by unfold Func.isWrapper; first | (rw [if_pos (by decide +kernel)]; kernel_rfl) | (rw [if_neg (by decide +kernel)]; exact ⟨rfl, rfl⟩))
    (fun os started H enc _ => lifted os started H enc)

theorem proved : Rows.LexerStopsAtTheErrorSaid := over
end Go.Proofs.Ytebhfcjkaoldmaa.lawLexerStopsAtTheError
