/- LexerLeavesBlanks: for every text without errors of at most 2,000 bytes, the tokens stand one behind the other, the bytes between them have no tokens, and the value of a number is what its digits say. No condition. -/
import Derived.Test.YtebhfcjkaoldmaaLexPlace
import Derived.ChangeMaps5
import Derived.Deep.RegionHeld3
import Derived.BigQuiet
import Derived.IntWalk
namespace Go.Proofs.Ytebhfcjkaoldmaa.lawLexerLeavesBlanks
open Go.RowKit Go.ChangeShapes Go.WideShapes Go.Proofs.Ytebhfcjkaoldmaa

set_option maxHeartbeats 1000000 in
theorem valueL_any (s : ByteArray) (w : World) (hs : s.size ≤ 10) (hd : ∀ b ∈ s.data.toList, isDgt b = true) :
    Calls Try.prog 19 #[.string s] w fun e w' => e = .returned (.int .i64 (valF s.data.toList : Nat)) ∧ w' = w := by
  have Hd := Lib.hid hd
  clear hd
  go_enter Try.func19, Try.ntmps19
  go_wp2
  go_loop [3, 4] (fun f t => ∃ k : Nat, k ≤ s.size ∧ t = .int .i64 k ∧ f = .int .i64 (valF (s.data.toList.take k) : Nat)) (fun _ t => s.size - (intOf t).toNat)
  case atStart => exact ⟨0, Nat.zero_le _, rfl, rfl⟩
  case round =>
    obtain ⟨k, hk, rfl, rfl⟩ := hrel
    by_cases hlt : k < s.size
    · obtain ⟨hb1, hb2⟩ := dgt_iff (Hd.out _ (vmem_at s k hlt))
      have hv := val_bound 10 (s.data.toList.take k) (by have := List.length_take_le k s.data.toList; omega) (fun b hb => Hd.out b (List.mem_of_mem_take hb))
      have HS : Hid (valF (s.data.toList.take (k + 1)) = 10 * valF (s.data.toList.take k) + (s[k].toNat - 48)) := Lib.hid (by rw [vtake_snoc s k hlt, val_snoc])
      generalize valF (s.data.toList.take k) = V at *
      go_wp2
      go_round
      case rel => exact ⟨k + 1, by omega, by go_num, by rw [HS.out]; go_num⟩
      case measure => simp [intOf]; omega
    · have hall := vall s (k := k) (by omega)
      rw [hall] at *
      clear hall
      go_wp2
      go_ret
      exact ⟨rfl, rfl⟩
theorem between_of {s : ByteArray} {ts : List Tok} (h : scanB s.data.toList = .inr ts) {p q : Nat} (hq : q = nextG s.data.toList p) : scanB (s.extract p q).data.toList = .inr [] := by
  obtain ⟨_, _, hl⟩ := scan_run h
  rw [ByteArray.data_extract, Array.toList_extract, hq]
  exact gap_alone hl
theorem kind_of {s : ByteArray} {ts : List Tok} (h : scanB s.data.toList = .inr ts) {k : Nat} (hk : k < ts.length) : ((tkA ts k).kind = 2 ∧ (∀ b ∈ (s.extract (tkA ts k).at_ (tkA ts k).end_).data.toList, isDgt b = true) ∧ (s.extract (tkA ts k).at_ (tkA ts k).end_).size ≤ 10 ∧ valF (s.extract (tkA ts k).at_ (tkA ts k).end_).data.toList = (tkA ts k).num) ∨ ((tkA ts k).kind ≠ 2 ∧ (tkA ts k).num = 0) := by
  have hs := stands h hk
  rcases tok_kind hs.tok with ⟨h1, h2, h3, h4⟩ | h1
  · have e : (s.extract (tkA ts k).at_ (tkA ts k).end_).data.toList = (s.data.toList.drop (tkA ts k).at_).take ((tkA ts k).end_ - (tkA ts k).at_) := by rw [ByteArray.data_extract, Array.toList_extract]
    have hle := hs.le
    simp at hle
    exact .inl ⟨h1, by rw [e]; exact h2, by rw [ByteArray.size_extract]; dsimp only at h3; omega, by rw [e]; exact h4.symm⟩
  · exact .inr h1
theorem quiet_add_same {P : Program} {f : FuncId} {args : Array Value} {w : World} {a n : Nat} {v : Value}
    (h : Calls P f args (w.drewN (a + n)) fun e w' => e = .returned v ∧ w' = w.drewN (a + n)) :
    Calls P f args (w.drewN (a + n)) fun e w'' => e = .returned v ∧ ∃ m, w'' = w.drewN (a + m) :=
  h.mono fun _ _ ⟨he, hm⟩ => ⟨he, n, hm⟩
set_option maxRecDepth 100000 in
set_option maxHeartbeats 4000000 in
theorem walk (W : World) (s : ByteArray) (_ : s.size ≤ maxLen) : Calls Try.prog 6 #[.string s] W fun e W' => e = .returned (.bool true) ∧ Below W.heap.size W W' := by
  have haw := fun w => awake_any w
  have hfa := fun w => fair_any s w
  cases hf : fairF s
  · rw [hf] at hfa
    go_enter Try.func6, Try.ntmps6
    go_wp2_with (first | (go_at_call 18; refine (hfa _).mono ?_; rintro e w1 ⟨rfl, hb1⟩) | (go_at_call 10; refine (haw _).mono ?_; rintro e w2 ⟨rfl, hb2⟩))
    go_ret
    exact ⟨rfl, hb1.trans (hb2.mono hb1.size)⟩
  obtain ⟨hs, ts, hsc⟩ := fair_true hf
  rw [hf] at hfa
  have hscan := fun w0 => scan_ok_at hsc w0
  have hn := (scan_run hsc).2.1
  have HSC := Lib.hid hsc
  clear hf hsc
  go_enter Try.func6, Try.ntmps6
  go_wp2_with (first | (go_at_call 18; refine (hfa _).mono ?_; rintro e w1 ⟨rfl, hb1⟩) | (go_at_call 11; refine (hscan _).mono ?_; rintro e w2 ⟨⟨a, c, rfl, hT, _⟩, hb2⟩))
  have HT := Lib.hid hT
  have HB := Lib.hid (hb1.trans (hb2.mono hb1.size))
  clear hT hb1 hb2 hfa hscan
  go_loopw [6, 7] (fun f t wr => ∃ k : Nat, k ≤ ts.length ∧ t = .int .i64 k ∧ f = .int .i64 (prevE 0 ts k : Nat) ∧ Below w2.heap.size w2 wr) (fun _ t _ => ts.length + 1 - (intOf t).toNat)
  case atStart => exact ⟨0, Nat.zero_le _, rfl, rfl, Below.refl _ _⟩
  case round =>
    obtain ⟨k, hk, rfl, rfl, hbel⟩ := hrel
    have hszb := HB.out.size
    have hszr := hbel.size
    have hpl := prev_le HSC.out hk
    simp at hpl
    by_cases hlt : k < ts.length
    · obtain ⟨b, rfl, hb, hc⟩ := (HT.out.below hbel rfl).row (by omega)
      obtain ⟨x0, x1, x2, x3⟩ := hc k hlt
      have hst := stands HSC.out hlt
      have hbt := fun w0 => scan_ok_at (between_of HSC.out (p := prevE 0 ts k) hst.at_) w0
      have hkd := kind_of HSC.out hlt
      have HE : Hid (prevE 0 ts (k + 1) = (tkA ts k).end_) := Lib.hid rfl
      have h1 := hst.lt
      have h2 := hst.le
      have h3 : prevE 0 ts k ≤ (tkA ts k).at_ := by rw [hst.at_]; unfold nextG; omega
      simp at h2
      clear hc hst
      generalize (tkA ts k).kind = K at *
      generalize (tkA ts k).at_ = A at *
      generalize (tkA ts k).end_ = E at *
      generalize (tkA ts k).num = N at *
      generalize prevE 0 ts k = p at *
      have d3 : decide ((A : Int) < p) = false := by simp; omega
      have d4 : decide ((s.size : Int) < A) = false := by simp; omega
      have hk0 : (0 : Int) ≤ k := by omega
      have hk1 : (k : Int) < ts.length := by omega
      have hkn : ((k : Int) == ts.length) = false := by simp; omega
      have hpa : (p : Int) ≤ A := by omega
      have hea : (A : Int) ≤ E := by omega
      have hes : (E : Int) ≤ s.size := by omega
      have has : (A : Int) ≤ s.size := by omega
      rcases hkd with ⟨hK, hd, h10, hv⟩ | ⟨hK, hN⟩
      · have hval := fun w0 => valueL_any _ w0 h10 hd
        rw [hv] at hval
        have E1 : Hid (((K : Int) != 2) = false) := Lib.hid (by rw [hK]; rfl)
        have E2 : Hid (((K : Int) == 2) = true) := Lib.hid (by rw [hK]; rfl)
        have E3 : Hid (((N : Int) != N) = false) := Lib.hid (by simp)
        clear hd h10 hv hK
        go_wp2_with (go_at_call 11; refine (hbt _).mono ?_; rintro e w5 ⟨⟨a5, c5, rfl, _, _⟩, hb5'⟩; have hb5 : Below w2.heap.size w2 w5 := hbel.trans (hb5'.mono hbel.size); have y0 : w5.cell? ⟨b, k * 4, none⟩ = some (.int .i64 (K : Int)) := (hb5'.cell (p := ⟨b, k * 4, none⟩) hb).trans x0; have y1 : w5.cell? ⟨b, k * 4 + 1, none⟩ = some (.int .i64 (A : Int)) := (hb5'.cell (p := ⟨b, k * 4 + 1, none⟩) hb).trans x1; have y2 : w5.cell? ⟨b, k * 4 + 2, none⟩ = some (.int .i64 (E : Int)) := (hb5'.cell (p := ⟨b, k * 4 + 2, none⟩) hb).trans x2; have y3 : w5.cell? ⟨b, k * 4 + 3, none⟩ = some (.int .i64 (N : Int)) := (hb5'.cell (p := ⟨b, k * 4 + 3, none⟩) hb).trans x3; clear hb5' x0 x1 x2 x3)
        have HB5 := Lib.hid hb5
        clear hb5
        simp only [List.append]
        have d1 : decide (E ≤ A) = false := by simp; omega
        have d2 : decide (s.size < E) = false := by simp; omega
        have e1 := E1.out
        have e2 := E2.out
        have e3 := E3.out
        go_quiet ((go_at_call 19; exact Calls.quiet_of_same (hval _)))
        go_wp2_with fail
        go_roundw
        case rel => exact ⟨k + 1, by omega, by go_num, by rw [HE.out], by first | exact belDraws HB5.out _ | exact HB5.out⟩
        case measure => simp [intOf]; omega
      · have E1 : Hid (((K : Int) != 2) = true) := Lib.hid (by simp; omega)
        have E2 : Hid (((K : Int) == 2) = false) := Lib.hid (by simp; omega)
        have E3 : Hid (((N : Int) != 0) = false) := Lib.hid (by rw [hN]; rfl)
        clear hK hN
        go_wp2_with (go_at_call 11; refine (hbt _).mono ?_; rintro e w5 ⟨⟨a5, c5, rfl, _, _⟩, hb5'⟩; have hb5 : Below w2.heap.size w2 w5 := hbel.trans (hb5'.mono hbel.size); have y0 : w5.cell? ⟨b, k * 4, none⟩ = some (.int .i64 (K : Int)) := (hb5'.cell (p := ⟨b, k * 4, none⟩) hb).trans x0; have y1 : w5.cell? ⟨b, k * 4 + 1, none⟩ = some (.int .i64 (A : Int)) := (hb5'.cell (p := ⟨b, k * 4 + 1, none⟩) hb).trans x1; have y2 : w5.cell? ⟨b, k * 4 + 2, none⟩ = some (.int .i64 (E : Int)) := (hb5'.cell (p := ⟨b, k * 4 + 2, none⟩) hb).trans x2; have y3 : w5.cell? ⟨b, k * 4 + 3, none⟩ = some (.int .i64 (N : Int)) := (hb5'.cell (p := ⟨b, k * 4 + 3, none⟩) hb).trans x3; clear hb5' x0 x1 x2 x3)
        have HB5 := Lib.hid hb5
        clear hb5
        simp only [List.append]
        have d1 : decide (E ≤ A) = false := by simp; omega
        have d2 : decide (s.size < E) = false := by simp; omega
        have e1 := E1.out
        have e2 := E2.out
        have e3 := E3.out
        go_quiet (fail)
        go_wp2_with fail
        go_roundw
        case rel => exact ⟨k + 1, by omega, by go_num, by rw [HE.out], by first | exact belDraws HB5.out _ | exact HB5.out⟩
        case measure => simp [intOf]; omega
    · obtain rfl : k = ts.length := by omega
      have hbt := fun w0 => scan_ok_at (between_of HSC.out (p := prevE 0 ts ts.length) (q := s.size) (by rw [ends HSC.out]; simp)) w0
      generalize prevE 0 ts ts.length = p at *
      have d3 : decide ((s.size : Int) < p) = false := by simp; omega
      have hps : (p : Int) ≤ s.size := by omega
      go_wp2_with (first | (go_at_call 11; refine (hbt _).mono ?_; rintro e w5 ⟨⟨a5, c5, rfl, _, _⟩, hb5'⟩; have hb5 : Below w2.heap.size w2 w5 := hbel.trans (hb5'.mono hbel.size)) | (go_at_call 10; refine (haw _).mono ?_; rintro e w6 ⟨rfl, hb6⟩))
      go_ret
      exact ⟨rfl, (HB.out.trans (hb5.mono hszb)).trans (hb6.mono (HB.out.trans (hb5.mono hszb)).size)⟩

set_option maxRecDepth 100000 in
theorem lifted (os : Os) (started : os.Started) (H : Type) (enc : TypeId × Value → H) :
    ReturnsInHanded {} Try.checked os 6 .any (Rows.lexerLeavesBlanksSpec.pre6 enc Try.prog Try.f6 Rows.lexerLeavesBlanksRow.domain false) (Rows.lexerLeavesBlanksSpec.post enc Try.prog Try.f6 false true false false) := by
  refine returnsInHanded_of_change (C := Try.checked) own started (by kernel_rfl) Try.func6
    (ChangeSpec.witness6 (enc := enc) (C := Try.checked) false ⟨#[], #[.string ⟨#[]⟩], []⟩ 8 (by kernel_rfl) (by kernel_rfl) (by kernel_rfl) (by kernel_rfl)) ?_
  intro W base args ds gs before hval0 hW hcnd _
  have hval : ∀ (j : Nat) t v, Try.f6.params[j]? = some t → args[j]? = some v → Value.okWide Try.prog W .any base t v := hval0
  have hW' := hW
  obtain ⟨p, q, hA0, hV, rfl, hfz, hnd⟩ := hW
  have hA : DataW.TrodAll enc Try.prog W 0 (fun _ => true) true Try.f6.params.toList args.toList ds p := hA0
  rw [Try.params6] at hA hval
  obtain ⟨v0, vs0, d0, ds0, p0, q0, hargs, rfl, rfl, h0, r0⟩ := trodAll_cons hA
  obtain ⟨rfl, rfl, rfl⟩ := trodAll_nil r0
  obtain rfl : args = #[v0] := by cases args; simp_all
  obtain ⟨rfl, rfl⟩ := trodVars_none hV
  have k0 := h0
  have lt0 : ∀ x ∈ p0, x.block < W.heap.size := by obtain ⟨m, hm⟩ := k0; exact DataW.trod_lt m _ _ _ hm
  obtain ⟨a0, rfl, rfl, rfl, w0⟩ := Go.ChangeMaps.open_string Try.underlying9 (hval 0 9 v0 rfl rfl) h0
  clear hA0 hval0
  refine (walk W a0 w0).mono fun e W' ⟨he, bel⟩ => ?_
  subst he
  exact ⟨_, rfl, _, _, _, [], _, [], hW', trodAll_mk1 (shut_bool Try.underlying4 _), (trodAll_cons_mk (Below.trod laidOut (by kernel_rfl) (of_decide_eq_true (by kernel_rfl)) k0 bel lt0) trodAll_mk0), rfl, bel.frame _, fun h => by cases h⟩

theorem over : Rows.lexerLeavesBlanksRow.holds Try.pinned (OpenSpec.ofChange Rows.lexerLeavesBlanksSpec) :=
  OpenClaim.holds_of_wide 6 Try.f6 rfl rfl rfl rfl rfl rfl rfl ⟨rfl, rfl, rfl, rfl, rfl⟩ rfl rfl rfl rfl rfl (by kernel_rfl) Try.func6 (by kernel_rfl)
    (of_decide_eq_true (by kernel_rfl)) (by unfold Func.isWrapper; first | (rw [if_pos (by decide +kernel)]; kernel_rfl) | (rw [if_neg (by decide +kernel)]; exact ⟨rfl, rfl⟩))
    (fun os started H enc _ => lifted os started H enc)

theorem proved : Rows.LexerLeavesBlanksSaid := over
end Go.Proofs.Ytebhfcjkaoldmaa.lawLexerLeavesBlanks
