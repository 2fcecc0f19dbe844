/- LexerTokensStandAlone: for every text without errors of at most 2,000 bytes, the bytes of each token, by themselves, are one token of the same kind and value. No condition. -/
import Derived.Test.YtebhfcjkaoldmaaLexPlace
import Derived.ChangeMaps5
import Derived.Deep.RegionHeld3
import Derived.BigQuiet
import Derived.IntWalk
namespace Go.Proofs.Ytebhfcjkaoldmaa.lawLexerTokensStandAlone
open Go.RowKit Go.ChangeShapes Go.WideShapes Go.Proofs.Ytebhfcjkaoldmaa

theorem alone_of {s : ByteArray} {ts : List Tok} (h : scanB s.data.toList = .inr ts) {k : Nat} (hk : k < ts.length) : scanB (s.extract (tkA ts k).at_ (tkA ts k).end_).data.toList = .inr [⟨(tkA ts k).kind, 0, (tkA ts k).end_ - (tkA ts k).at_, (tkA ts k).num⟩] := by
  have hs := stands h hk
  obtain ⟨_, _, hl⟩ := scan_run h
  have := tok_alone hs.tok (by simp; simp at hl; omega)
  rw [ByteArray.data_extract, Array.toList_extract]
  exact this
set_option maxRecDepth 100000 in
set_option maxHeartbeats 4000000 in
theorem walk (W : World) (s : ByteArray) (_ : s.size ≤ maxLen) : Calls Try.prog 7 #[.string s] W fun e W' => e = .returned (.bool true) ∧ Below W.heap.size W W' := by
  have haw := fun w => awake_any w
  have hfa := fun w => fair_any s w
  cases hf : fairF s
  · rw [hf] at hfa
    go_enter Try.func7, Try.ntmps7
    go_wp2_with (first | (go_at_call 18; refine (hfa _).mono ?_; rintro e w1 ⟨rfl, hb1⟩) | (go_at_call 10; refine (haw _).mono ?_; rintro e w2 ⟨rfl, hb2⟩))
    go_ret
    exact ⟨rfl, hb1.trans (hb2.mono hb1.size)⟩
  obtain ⟨hs, ts, hsc⟩ := fair_true hf
  rw [hf] at hfa
  have hscan := fun w0 => scan_ok_at hsc w0
  have hn := (scan_run hsc).2.1
  have HSC := Lib.hid hsc
  clear hf hsc
  go_enter Try.func7, Try.ntmps7
  go_wp2_with (first | (go_at_call 18; refine (hfa _).mono ?_; rintro e w1 ⟨rfl, hb1⟩) | (go_at_call 11; refine (hscan _).mono ?_; rintro e w2 ⟨⟨a, c, rfl, hT, _⟩, hb2⟩))
  have HT := Lib.hid hT
  have HB := Lib.hid (hb1.trans (hb2.mono hb1.size))
  clear hT hb1 hb2 hfa hscan
  go_loopw [6] (fun t wr => ∃ k : Nat, k ≤ ts.length ∧ t = .int .i64 k ∧ Below w2.heap.size w2 wr) (fun t _ => ts.length - (intOf t).toNat)
  case atStart => exact ⟨0, Nat.zero_le _, rfl, Below.refl _ _⟩
  case round =>
    obtain ⟨k, hk, rfl, hbel⟩ := hrel
    have hszb := HB.out.size
    have hszr := hbel.size
    by_cases hlt : k < ts.length
    · obtain ⟨b, rfl, hb, hc⟩ := (HT.out.below hbel rfl).row (by omega)
      obtain ⟨x0, x1, x2, x3⟩ := hc k hlt
      have hst := stands HSC.out hlt
      have hm := fun w0 => scan_ok_at (alone_of HSC.out hlt) w0
      have h1 := hst.lt
      have h2 := hst.le
      simp at h2
      clear hc hst
      generalize (tkA ts k).kind = K at *
      generalize (tkA ts k).at_ = A at *
      generalize (tkA ts k).end_ = E at *
      generalize (tkA ts k).num = N at *
      obtain ⟨D, hD⟩ : ∃ D, E - A = D := ⟨_, rfl⟩
      rw [hD] at hm
      have d1 : decide ((A : Int) < 0) = false := by simp
      have d2 : decide ((s.size : Int) < E) = false := by simp; omega
      have d3 : decide ((E : Int) ≤ A) = false := by simp; omega
      have hk0 : (0 : Int) ≤ k := by omega
      have hk1 : (k : Int) < ts.length := by omega
      have hea : (A : Int) ≤ E := by omega
      have hes : (E : Int) ≤ s.size := by omega
      have hwr : IntKind.i64.wrap ((E : Int) - A) = D := by
        rw [IntWalk.i64_in _ (by omega)]
        omega
      have Hwr := Lib.hid hwr
      clear hwr
      go_wp2_with fail
      go_quiet (fail)
      go_wp2_with fail
      go_region_held3 (fun w' => w'.cell? ⟨b, k * 4 + 1, none⟩ = some (.int .i64 (A : Int)) ∧ w'.cell? ⟨b, k * 4 + 2, none⟩ = some (.int .i64 (E : Int)) ∧ Below w2.heap.size w2 w') (first | exact ⟨y1, y2, hb5⟩ | exact ⟨x1, x2, (belDraws hbel _).drew⟩ | exact ⟨x1, x2, belDraws hbel _⟩) ((go_at_call 11; refine (hm _).mono ?_; rintro e w5 ⟨⟨a5, c5, rfl, hT5, _⟩, hb5'⟩; have hb5 : Below w2.heap.size w2 w5 := (belDraws hbel _).trans (hb5'.mono (belDraws hbel _).size); have y1 : w5.cell? ⟨b, k * 4 + 1, none⟩ = some (.int .i64 (A : Int)) := (hb5'.cell (p := ⟨b, k * 4 + 1, none⟩) hb).trans x1; have y2 : w5.cell? ⟨b, k * 4 + 2, none⟩ = some (.int .i64 (E : Int)) := (hb5'.cell (p := ⟨b, k * 4 + 2, none⟩) hb).trans x2))
      obtain ⟨b5, rfl, hbl5, hc5⟩ := hT5.row (by simp)
      have z0 : w5.cell? ⟨b5, 0, none⟩ = some (.int .i64 (K : Int)) := (hc5 0 (by simp)).1
      have z1 : w5.cell? ⟨b5, 1, none⟩ = some (.int .i64 0) := (hc5 0 (by simp)).2.1
      have z2 : w5.cell? ⟨b5, 2, none⟩ = some (.int .i64 (D : Int)) := (hc5 0 (by simp)).2.2.1
      have z3 : w5.cell? ⟨b5, 3, none⟩ = some (.int .i64 (N : Int)) := (hc5 0 (by simp)).2.2.2
      have y0 : w5.cell? ⟨b, k * 4, none⟩ = some (.int .i64 (K : Int)) := (hb5'.cell (p := ⟨b, k * 4, none⟩) hb).trans x0
      have y3 : w5.cell? ⟨b, k * 4 + 3, none⟩ = some (.int .i64 (N : Int)) := (hb5'.cell (p := ⟨b, k * 4 + 3, none⟩) hb).trans x3
      have HB5 := Lib.hid hb5
      clear hc5 hb5 hb5' hbel x0 x1 x2 x3 hT5
      go_wp2_with fail
      have hwr := Hwr.out
      go_quiet (fail)
      clear hwr
      go_wp2_with fail
      go_roundw
      case rel => exact ⟨k + 1, by omega, by go_num, by first | exact belDraws HB5.out _ | exact HB5.out⟩
      case measure => simp [intOf]; omega
    · have HB2 := Lib.hid (HB.out.trans (hbel.mono hszb))
      go_wp2_with (go_at_call 10; refine (haw _).mono ?_; rintro e w3 ⟨rfl, hb3⟩)
      go_ret
      exact ⟨rfl, HB2.out.trans (hb3.mono HB2.out.size)⟩

set_option maxRecDepth 100000 in
theorem lifted (os : Os) (started : os.Started) (H : Type) (enc : TypeId × Value → H) :
    ReturnsInHanded {} Try.checked os 7 .any (Rows.lexerTokensStandAloneSpec.pre6 enc Try.prog Try.f7 Rows.lexerTokensStandAloneRow.domain false) (Rows.lexerTokensStandAloneSpec.post enc Try.prog Try.f7 false true false false) := by
  refine returnsInHanded_of_change (C := Try.checked) own started (by kernel_rfl) Try.func7
    (ChangeSpec.witness6 (enc := enc) (C := Try.checked) false ⟨#[], #[.string ⟨#[]⟩], []⟩ 8 (by kernel_rfl) (by kernel_rfl) (by kernel_rfl) (by kernel_rfl)) ?_
  intro W base args ds gs before hval0 hW hcnd _
  have hval : ∀ (j : Nat) t v, Try.f7.params[j]? = some t → args[j]? = some v → Value.okWide Try.prog W .any base t v := hval0
  have hW' := hW
  obtain ⟨p, q, hA0, hV, rfl, hfz, hnd⟩ := hW
  have hA : DataW.TrodAll enc Try.prog W 0 (fun _ => true) true Try.f7.params.toList args.toList ds p := hA0
  rw [Try.params7] at hA hval
  obtain ⟨v0, vs0, d0, ds0, p0, q0, hargs, rfl, rfl, h0, r0⟩ := trodAll_cons hA
  obtain ⟨rfl, rfl, rfl⟩ := trodAll_nil r0
  obtain rfl : args = #[v0] := by cases args; simp_all
  obtain ⟨rfl, rfl⟩ := trodVars_none hV
  have k0 := h0
  have lt0 : ∀ x ∈ p0, x.block < W.heap.size := by obtain ⟨m, hm⟩ := k0; exact DataW.trod_lt m _ _ _ hm
  obtain ⟨a0, rfl, rfl, rfl, w0⟩ := Go.ChangeMaps.open_string Try.underlying9 (hval 0 9 v0 rfl rfl) h0
  clear hA0 hval0
  refine (walk W a0 w0).mono fun e W' ⟨he, bel⟩ => ?_
  subst he
  exact ⟨_, rfl, _, _, _, [], _, [], hW', trodAll_mk1 (shut_bool Try.underlying4 _), (trodAll_cons_mk (Below.trod laidOut (by kernel_rfl) (of_decide_eq_true (by kernel_rfl)) k0 bel lt0) trodAll_mk0), rfl, bel.frame _, fun h => by cases h⟩

theorem over : Rows.lexerTokensStandAloneRow.holds Try.pinned (OpenSpec.ofChange Rows.lexerTokensStandAloneSpec) :=
  OpenClaim.holds_of_wide 7 Try.f7 rfl rfl rfl rfl rfl rfl rfl ⟨rfl, rfl, rfl, rfl, rfl⟩ rfl rfl rfl rfl rfl (by kernel_rfl) Try.func7 (by kernel_rfl)
    (of_decide_eq_true (by kernel_rfl)) (by unfold Func.isWrapper; first | (rw [if_pos (by decide +kernel)]; kernel_rfl) | (rw [if_neg (by decide +kernel)]; exact ⟨rfl, rfl⟩))
    (fun os started H enc _ => lifted os started H enc)

theorem proved : Rows.LexerTokensStandAloneSaid := over
end Go.Proofs.Ytebhfcjkaoldmaa.lawLexerTokensStandAlone
