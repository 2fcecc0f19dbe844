/- LexerIgnoresBlanks: for every text without errors of at most 1,000 bytes and any choice of blanks and comments, the tokens with these between them are the same tokens. No condition. -/
import Derived.Test.YtebhfcjkaoldmaaLexBlank
import Derived.ChangeMaps5
import Derived.Deep.RegionHeld3
import Derived.BigQuiet
import Derived.IntWalk
namespace Go.Proofs.Ytebhfcjkaoldmaa.lawLexerIgnoresBlanks
open Go.RowKit Go.ChangeShapes Go.WideShapes Go.Proofs.Ytebhfcjkaoldmaa

theorem data_app (a b : ByteArray) : (a ++ b).data.toList = a.data.toList ++ b.data.toList := by
  rw [ByteArray.data_append, Array.toList_append]
theorem quiet_add_same {P : Program} {f : FuncId} {args : Array Value} {w : World} {a n : Nat} {v : Value}
    (h : Calls P f args (w.drewN (a + n)) fun e w' => e = .returned v ∧ w' = w.drewN (a + n)) :
    Calls P f args (w.drewN (a + n)) fun e w'' => e = .returned v ∧ ∃ m, w'' = w.drewN (a + m) :=
  h.mono fun _ _ ⟨he, hm⟩ => ⟨he, n, hm⟩
/-- the text that is made: its scan -/
theorem other_scan {L : Bytes} {ts : List Tok} (h : scanB L = .inr ts) (hL : L.length ≤ 1000) (zs : List Int) : scanB (textOf (pieces L ts zs)) = .inr (layOf 0 (pieces L ts zs)) ∧ (textOf (pieces L ts zs)).length ≤ 16384 := by
  have hr := scan_run h
  have hsz := hr.1.sizes
  have hn : ts.length ≤ 1000 := by have := hsz.2.1; omega
  have htl := text_le h zs ts.length (Nat.le_refl _)
  rw [List.take_of_length_le (by rw [pieces_len]; exact Nat.le_refl _)] at htl
  have hp := prev_le h (Nat.le_refl ts.length)
  refine ⟨?_, by omega⟩
  have h1 := lay_run (pieces L ts zs) (pieces_good h zs) 0 [] closed_nil
  exact run_ok h1 (by rw [layOf_len, pieces_len]; omega) (by omega)
/-- the k-th token of it -/
theorem other_at {L : Bytes} {ts : List Tok} (h : scanB L = .inr ts) (zs : List Int) {k : Nat} (hk : k < ts.length) : ∃ p q : Nat, tkA (layOf 0 (pieces L ts zs)) k = ⟨(tkA ts k).kind, p, q, (tkA ts k).num⟩ ∧ p ≤ q ∧ q ≤ (textOf (pieces L ts zs)).length ∧
    ((textOf (pieces L ts zs)).drop p).take (q - p) = (L.drop (tkA ts k).at_).take ((tkA ts k).end_ - (tkA ts k).at_) := by
  have h1 := layOf_at (pieces L ts zs) 0 k _ (pieces_at hk)
  have h2 := textOf_part (pieces_at (L := L) (zs := zs) hk)
  have h3 := piece_tb h zs hk
  have hpos := (stands h hk).lt
  refine ⟨_, _, h1, Nat.le_add_right _ _, ?_, ?_⟩
  · rw [Nat.zero_add]
    show (textOf ((pieces L ts zs).take k)).length + ((tkA ts k).end_ - (tkA ts k).at_) ≤ _
    have h4 := congrArg List.length h2
    rw [h3, List.length_take, List.length_drop] at h4
    omega
  · rw [h3] at h2
    rw [Nat.zero_add, Nat.add_sub_cancel_left]
    exact h2
set_option maxRecDepth 100000 in
set_option maxHeartbeats 8000000 in
theorem walk (W : World) (s : ByteArray) (_ : s.size ≤ maxLen) (wa : Option Addr) (wc : Nat) (zs : List Int) (hZ : BytesAt W wa zs) : Calls Try.prog 8 #[.string s, .slice wa zs.length wc] W fun e W' => e = .returned (.bool true) ∧ Below W.heap.size W W' := by
  have haw := fun w => awake_any w
  have hfa := fun w => fair_any s w
  cases hf : fairF s
  · rw [hf] at hfa
    go_enter Try.func8, Try.ntmps8
    go_wp2_with (first | (go_at_call 18; refine (hfa _).mono ?_; rintro e w1 ⟨rfl, hb1⟩) | (go_at_call 10; refine (haw _).mono ?_; rintro e w2 ⟨rfl, hb2⟩))
    go_ret
    exact ⟨rfl, hb1.trans (hb2.mono hb1.size)⟩
  obtain ⟨_, ts, hsc⟩ := fair_true hf
  rw [hf] at hfa
  by_cases h1000 : 1000 < s.size
  · have d1 : decide (1000 < (s.size : Int)) = true := by simp; omega
    clear hsc hf
    go_enter Try.func8, Try.ntmps8
    go_wp2_with (first | (go_at_call 18; refine (hfa _).mono ?_; rintro e w1 ⟨rfl, hb1⟩) | (go_at_call 10; refine (haw _).mono ?_; rintro e w2 ⟨rfl, hb2⟩))
    go_ret
    exact ⟨rfl, hb1.trans (hb2.mono hb1.size)⟩
  have d1 : decide (1000 < (s.size : Int)) = false := by simp; omega
  have hscan := fun w0 => scanR_ok_at hsc w0
  have hn : ts.length ≤ 1000 := by
    have := (scan_run hsc).1.sizes
    simp at this
    omega
  have HSC := Lib.hid hsc
  have HL : Hid (s.data.toList.length ≤ 1000) := Lib.hid (by simp; omega)
  clear hf hsc
  go_enter Try.func8, Try.ntmps8
  go_wp2_with (first | (go_at_call 18; refine (hfa _).mono ?_; rintro e w1 ⟨rfl, hb1⟩) | (go_at_call 12; refine (hscan _).mono ?_; rintro e w2 ⟨⟨a, c, rfl, hT, _⟩, hb2⟩))
  have HT := Lib.hid hT
  have hb12 := hb1.trans (hb2.mono hb1.size)
  have HZ := Lib.hid (hZ.below hb12 rfl)
  have HB := Lib.hid hb12
  clear hT hb1 hb2 hfa hscan hb12
  go_loopw [8, 9] (fun q t wr => ∃ (O : ByteArray) (k : Nat), k ≤ ts.length ∧ q = .string O ∧ t = .int .i64 k ∧ O.data.toList = textOf ((pieces s.data.toList ts zs).take k) ∧ Below w2.heap.size w2 wr) (fun _ t _ => ts.length - (intOf t).toNat)
  case atStart => exact ⟨⟨#[]⟩, 0, Nat.zero_le _, rfl, rfl, by simp [textOf], Below.refl _ _⟩
  case round =>
    obtain ⟨O, k, hk, rfl, rfl, hO, hbel⟩ := hrel
    have hszb := HB.out.size
    have hszr := hbel.size
    have hOs : O.size ≤ 11000 := by
      have h1 := text_le HSC.out zs k hk
      have h2 := prev_le HSC.out hk
      have h3 := HL.out
      rw [← hO] at h1
      simp at h1 h2 h3
      omega
    have HO := Lib.hid hO
    clear hO
    by_cases hlt : k < ts.length
    · obtain ⟨b, rfl, hb, hc⟩ := (HT.out.below hbel rfl).row (by omega)
      obtain ⟨_, x1, x2, _⟩ := hc k hlt
      have hst := stands HSC.out hlt
      have hbl := fun w0 h => blankL_any wa wc zs k w0 h
      have hZr := HZ.out.below hbel rfl
      have HSTEP := Lib.hid (text_step (L := s.data.toList) (zs := zs) hlt)
      have hsep := sep_len zs k
      have htb : (pieceAt s.data.toList ts zs k).tb = (s.extract (tkA ts k).at_ (tkA ts k).end_).data.toList := by
        rw [ByteArray.data_extract, Array.toList_extract]
        rfl
      rw [htb] at HSTEP
      have h1 := hst.lt
      have h2 := hst.le
      simp at h2
      clear hc hst htb
      generalize (tkA ts k).at_ = A at *
      generalize (tkA ts k).end_ = E at *
      have hxs : (s.extract A E).size ≤ 1000 := by rw [ByteArray.size_extract]; omega
      generalize hX : s.extract A E = X at *
      generalize hS : sepF zs k = Sp at *
      have HX := Lib.hid hX
      clear hS hX
      have hsp : (ByteArray.mk Sp.toArray).size ≤ 10 := by simpa [ByteArray.size] using hsep
      have hsp2 : (ByteArray.mk Sp.toArray).data.toList = Sp := by simp
      obtain ⟨SB, hSB⟩ : ∃ SB : ByteArray, SB = ⟨Sp.toArray⟩ := ⟨_, rfl⟩
      rw [← hSB] at hsp hsp2 hbl
      have hxs2 : (X ++ SB).size ≤ 1010 := by rw [ByteArray.size_append]; omega
      have add1 := fun W => run_string_add (P := Try.prog) W X SB (by omega) (by omega)
      have add2 := fun W => run_string_add (P := Try.prog) W O (X ++ SB) (by omega) (by omega)
      have HN : Hid ((O ++ (X ++ SB)).data.toList = textOf ((pieces s.data.toList ts zs).take (k + 1))) := Lib.hid (by
        rw [HSTEP.out, data_app, data_app, HO.out, hsp2])
      clear hsep hsp hsp2 hxs hxs2 hSB
      have hk0 : (0 : Int) ≤ k := by omega
      have hk1 : (k : Int) < ts.length := by omega
      have hea : (A : Int) ≤ E := by omega
      have hes : (E : Int) ≤ s.size := by omega
      go_wp2_with fail
      have hxe := HX.out
      go_quiet ((go_at_call 20; exact Calls.quiet_of_same (hbl _ (hZr.below (belDraws (Below.refl _ _) _) rfl))))
      clear add1 add2 hxe hbl hZr
      go_wp2_with fail
      go_roundw
      case rel => exact ⟨O ++ (X ++ SB), k + 1, by omega, rfl, by go_num, HN.out, by first | exact belDraws hbel _ | exact hbel⟩
      case measure => simp [intOf]; omega
    · obtain rfl : k = ts.length := by omega
      have hO2 : O.data.toList = textOf (pieces s.data.toList ts zs) := by
        rw [HO.out, List.take_of_length_le (by rw [pieces_len]; exact Nat.le_refl _)]
      obtain ⟨hsc2, _⟩ := other_scan HSC.out HL.out zs
      have hm0 := fun w0 => scan_ok_at (s := O) (by rw [hO2]; exact hsc2) w0
      have hul : (layOf 0 (pieces s.data.toList ts zs)).length = ts.length := by rw [layOf_len, pieces_len]
      have HK := Lib.hid (fun k hk => other_at HSC.out zs (k := k) hk)
      have HO2 := Lib.hid hO2
      generalize layOf 0 (pieces s.data.toList ts zs) = us at *
      have hm : ∀ w0, Calls Try.prog 11 #[.string O] w0 fun e w' => (∃ a c, e = .returned (.tuple #[.slice a ts.length c, .int .i64 0, .int .i64 0]) ∧ TokAt w' a us) ∧ Below w0.heap.size w0 w' := fun w0 => (hm0 w0).mono fun e w' ⟨⟨a, c, he, hT, hc⟩, hb⟩ => ⟨⟨a, c, by rw [he, hul], hT⟩, hb⟩
      clear hm0 hsc2 hO2 HO
      go_wp2_with (go_at_call 11; refine (hm _).mono ?_; rintro e w5 ⟨⟨a5, c5, rfl, hT5⟩, hb5⟩)
      have HT5 := Lib.hid hT5
      have HT2 := Lib.hid ((HT.out.below hbel rfl).below hb5 rfl)
      have hb5w := hbel.trans (hb5.mono hszr)
      have HB5 := Lib.hid (HB.out.trans (hb5w.mono hszb))
      have hsz5 := hb5w.size
      have Hul := Lib.hid hul
      clear hT5 hb5 hb5w hul hm
      go_loopw [13] (fun t wz => ∃ k : Nat, k ≤ ts.length ∧ t = .int .i64 k ∧ Below w5.heap.size w5 wz) (fun t _ => ts.length - (intOf t).toNat)
      case atStart => exact ⟨0, Nat.zero_le _, rfl, Below.refl _ _⟩
      case round =>
        obtain ⟨k, hk, rfl, hbz⟩ := hrel
        have hszz := hbz.size
        by_cases hlt2 : k < ts.length
        · obtain ⟨b, rfl, hb, hc⟩ := (HT2.out.below hbz rfl).row (by omega)
          obtain ⟨b6, rfl, hb6, hc6⟩ := (HT5.out.below hbz rfl).row (by rw [Hul.out]; omega)
          obtain ⟨x0, x1, x2, x3⟩ := hc k hlt2
          obtain ⟨y0, y1, y2, y3⟩ := hc6 k (by rw [Hul.out]; omega)
          obtain ⟨p, q, he, hpq, hq, hpart⟩ := HK.out k hlt2
          have hst := stands HSC.out hlt2
          have h1 := hst.lt
          have h2 := hst.le
          simp at h2
          rw [he] at y0 y1 y2 y3
          have hqs : q ≤ O.size := by
            rw [← HO2.out] at hq
            simpa using hq
          have hX1 : (O.extract p q).toList = (s.extract (tkA ts k).at_ (tkA ts k).end_).toList := by
            rw [ByteArray.toList_eq, ByteArray.toList_eq, ByteArray.data_extract, ByteArray.data_extract, Array.toList_extract, Array.toList_extract, List.extract_eq_take_drop, List.extract_eq_take_drop, HO2.out, hpart]
          clear hc hc6 hst he hq hpart
          generalize (tkA ts k).kind = K at *
          generalize (tkA ts k).at_ = A at *
          generalize (tkA ts k).end_ = E at *
          generalize (tkA ts k).num = N at *
          generalize hXs : (s.extract A E).toList = T at *
          have HX1 := Lib.hid hX1
          have HX2 := Lib.hid hXs
          clear hX1 hXs
          have hk0 : (0 : Int) ≤ k := by omega
          have hk1 : (k : Int) < ts.length := by omega
          have hea : (A : Int) ≤ E := by omega
          have hes : (E : Int) ≤ s.size := by omega
          have hpq2 : (p : Int) ≤ q := by omega
          have hqo : (q : Int) ≤ O.size := by omega
          go_wp2_with fail
          try simp only [List.append]
          have e1 : decide ((p : Int) < 0) = false := by simp
          have e2 : decide (O.size < q) = false := by simp; omega
          have e3 : decide (q < p) = false := by simp; omega
          have g1 := HX1.out
          have g2 := HX2.out
          go_quiet (fail)
          clear g1 g2
          go_wp2_with fail
          go_roundw
          case rel => exact ⟨k + 1, by omega, by go_num, by first | exact belDraws hbz _ | exact hbz⟩
          case measure => simp [intOf]; omega
        · go_wp2_with (go_at_call 10; refine (haw _).mono ?_; rintro e w6 ⟨rfl, hb6⟩)
          go_ret
          exact ⟨rfl, (HB5.out.trans (hbz.mono HB5.out.size)).trans (hb6.mono (HB5.out.trans (hbz.mono HB5.out.size)).size)⟩

set_option maxRecDepth 100000 in
theorem lifted (os : Os) (started : os.Started) (H : Type) (enc : TypeId × Value → H) :
    ReturnsInHanded {} Try.checked os 8 .any (Rows.lexerIgnoresBlanksSpec.pre6 enc Try.prog Try.f8 Rows.lexerIgnoresBlanksRow.domain false) (Rows.lexerIgnoresBlanksSpec.post enc Try.prog Try.f8 false true false false) := by
  refine returnsInHanded_of_change (C := Try.checked) own started (by kernel_rfl) Try.func8
    (ChangeSpec.witness6 (enc := enc) (C := Try.checked) false ⟨#[], #[.string ⟨#[]⟩, .slice none 0 0], []⟩ 8 (by kernel_rfl) (by kernel_rfl) (by kernel_rfl) (by kernel_rfl)) ?_
  intro W base args ds gs before hval0 hW hcnd _
  have hval : ∀ (j : Nat) t v, Try.f8.params[j]? = some t → args[j]? = some v → Value.okWide Try.prog W .any base t v := hval0
  have hW' := hW
  obtain ⟨p, q, hA0, hV, rfl, hfz, hnd⟩ := hW
  have hA : DataW.TrodAll enc Try.prog W 0 (fun _ => true) true Try.f8.params.toList args.toList ds p := hA0
  rw [Try.params8] at hA hval
  obtain ⟨v0, vs0, d0, ds0, p0, q0, hargs, rfl, rfl, h0, r0⟩ := trodAll_cons hA
  obtain ⟨v1, vs1, d1, ds1, p1, q1, rfl, rfl, rfl, h1, r1⟩ := trodAll_cons r0
  obtain ⟨rfl, rfl, rfl⟩ := trodAll_nil r1
  obtain rfl : args = #[v0, v1] := by cases args; simp_all
  obtain ⟨rfl, rfl⟩ := trodVars_none hV
  have k0 := h0
  have lt0 : ∀ x ∈ p0, x.block < W.heap.size := by obtain ⟨m, hm⟩ := k0; exact DataW.trod_lt m _ _ _ hm
  obtain ⟨a0, rfl, rfl, rfl, w0⟩ := Go.ChangeMaps.open_string Try.underlying9 (hval 0 9 v0 rfl rfl) h0
  have k1 := h1
  have lt1 : ∀ x ∈ p1, x.block < W.heap.size := by obtain ⟨m, hm⟩ := k1; exact DataW.trod_lt m _ _ _ hm
  obtain ⟨sa1, sl1, sc1, rfl⟩ := okWide_slice Try.underlying34 (hval 1 34 v1 rfl rfl)
  obtain ⟨m1, hm1⟩ := h1
  obtain ⟨xa1, xl1, xc1, zs1, hv1, hl1, hI1⟩ := bytes_of Try.underlying34 Try.underlying5 (by kernel_rfl) hm1
  injection hv1 with e1a e1b e1c
  subst e1a e1b e1c hl1
  clear hA0 hval0
  refine (walk W a0 w0 sa1 sc1 zs1 hI1).mono fun e W' ⟨he, bel⟩ => ?_
  subst he
  exact ⟨_, rfl, _, _, _, [], _, [], hW', trodAll_mk1 (shut_bool Try.underlying4 _), (trodAll_cons_mk (Below.trod laidOut (by kernel_rfl) (of_decide_eq_true (by kernel_rfl)) k0 bel lt0) (trodAll_cons_mk (Below.trod laidOut (by kernel_rfl) (of_decide_eq_true (by kernel_rfl)) k1 bel lt1) trodAll_mk0)), rfl, bel.frame _, fun h => by cases h⟩

theorem over : Rows.lexerIgnoresBlanksRow.holds Try.pinned (OpenSpec.ofChange Rows.lexerIgnoresBlanksSpec) :=
  OpenClaim.holds_of_wide 8 Try.f8 rfl rfl rfl rfl rfl rfl rfl ⟨rfl, rfl, rfl, rfl, rfl⟩ rfl rfl rfl rfl rfl (by kernel_rfl) Try.func8 (by kernel_rfl)
    (of_decide_eq_true (by kernel_rfl)) (by unfold Func.isWrapper; first | (rw [if_pos (by decide +kernel)]; kernel_rfl) | (rw [if_neg (by decide +kernel)]; exact ⟨rfl, rfl⟩))
    (fun os started H enc _ => lifted os started H enc)

theorem proved : Rows.LexerIgnoresBlanksSaid := over
end Go.Proofs.Ytebhfcjkaoldmaa.lawLexerIgnoresBlanks
