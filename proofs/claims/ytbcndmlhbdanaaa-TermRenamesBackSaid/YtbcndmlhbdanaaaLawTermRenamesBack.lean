/- TermRenamesBack: for every list of terms and every raw numbers, renaming with a permutation of the variables and then with its inverse returns the expression, and the variables that are read are renamed. No condition. -/
import Derived.Test.YtbcndmlhbdanaaaTermBack2
import Derived.ChangeMaps5
namespace Go.Proofs.Ytbcndmlhbdanaaa.lawTermRenamesBack
open Go.RowKit Go.ChangeShapes Go.WideShapes Go.Proofs.Ytbcndmlhbdanaaa

set_option maxHeartbeats 16000000 in
theorem walk (W : World) (a : Option Addr) (c : Nat) (xs : List (Int × Int)) (hX : LinksAt W a xs) (ra : Option Addr) (rc : Nat) (zs : List Int) (hZ : IntsAt W ra zs) :
    Calls Try.prog 8 #[.slice a xs.length c, .slice ra zs.length rc] W fun e W' => e = .returned (.bool true) ∧ Below W.heap.size W W' := by
  have HAw := Lib.hid (fun (X : World) (_ : Below W.heap.size W X) => awake_any X)
  by_cases hl : xs.length ≤ 250
  case neg =>
    have hl' : decide (xs.length ≤ 250) = false := decide_eq_false hl
    generalize xs.length = m at hl' ⊢
    generalize zs.length = n
    clear hX hZ hl
    go_enter Try.func8, Try.ntmps8
    go_wp2_with (first | (go_at_call 10; refine (lightE_any a m c _).mono ?_; rintro e w1 ⟨rfl, rfl⟩; rw [hl']) | (go_at_call 11; refine (HAw.out _ (Below.refl _ _)).mono ?_; rintro e w2 ⟨rfl, hb2⟩))
    go_ret
    exact ⟨rfl, hb2⟩
  have hl' : decide (xs.length ≤ 250) = true := decide_eq_true hl
  have HV2 := Lib.hid (validR_any a c xs 6 W hX (by omega))
  cases hv : validE xs 6 with
  | false =>
    rw [hv] at HV2
    generalize xs.length = m at *
    generalize zs.length = n
    clear hX hZ hl hv
    go_enter Try.func8, Try.ntmps8
    go_wp2_with (first | (go_at_call 10; refine (lightE_any a m c _).mono ?_; rintro e wN ⟨rfl, hwN⟩; rw [hl']; have hwN' := hwN.symm; subst hwN') | (go_at_call 27; refine HV2.out.mono ?_; rintro e w3 ⟨rfl, hb3⟩) | (go_at_call 11; refine (HAw.out _ hb3).mono ?_; rintro e w2 ⟨rfl, hb2⟩))
    go_ret
    exact ⟨rfl, hb3.trans (hb2.mono hb3.size)⟩
  | true =>
  rw [hv] at HV2
  have hv0 := hv
  have HVd := Lib.hid hv0
  have HX := Lib.hid hX
  have HFit := Lib.hid hX.fits
  have HPerm := Lib.hid (fun (X : World) (h : Below W.heap.size W X) => permutation_any ra rc zs X (hZ.below h))
  have HN1 := Lib.hid (fun (X : World) (g : Nat) (f : Nat → Int) (h : Below W.heap.size W X) (hz : IntsAt X (some ⟨g, 0, none⟩) (rowL f)) => renameP_any a c xs (some ⟨g, 0, none⟩) 6 (rowL f) X (hX.below h) (by omega) hz)
  have HS1 := Lib.hid (fun (X : World) (h : Below W.heap.size W X) => readsP_any a c xs X (hX.below h) (by omega))
  have HLe : Hid (xs.length ≤ 250) := Lib.hid hl
  have HSm := Lib.hid (fun (X : World) (a' : Option Addr) (c' : Nat) (h : Below W.heap.size W X) (hy : LinksAt X a' xs) => (sameR_any a a' c c' xs xs X (hX.below h) hy (by omega) (by omega)).mono (R' := fun e w' => e = .returned (.bool true) ∧ Below X.heap.size X w') (fun e w' h => ⟨by rw [h.1, decide_eq_true rfl], h.2⟩))
  obtain ⟨i0, hi, hz0, hz1, hz2⟩ := info_parts infoInt
  obtain ⟨m, hm⟩ : ∃ m, m = xs.length := ⟨_, rfl⟩
  have HM := Lib.hid hm
  rw [← hm] at HN1 HS1 HSm HV2 hl' ⊢
  generalize zs.length = n at *
  clear hX hZ hl hv hv0 hm
  go_enter Try.func8, Try.ntmps8
  go_wp2_with (first | (go_at_call 10; refine (lightE_any a m c _).mono ?_; rintro e wN ⟨rfl, hwN⟩; rw [hl']; have hwN' := hwN.symm; subst hwN') | (go_at_call 27; refine HV2.out.mono ?_; rintro e w3 ⟨rfl, hb3⟩) | (go_at_call 31; refine (HPerm.out _ hb3).mono ?_; rintro e w4 ⟨⟨g, f, rfl, hg, hgl, hrow, hperm⟩, hb4⟩; have hb5 := hb3.trans (hb4.mono hb3.size)) | (at_make; refine wpList_make_full _ rfl _ _ 30 rfl W.heap.size 3 i0 (.int .i64 0) 1 Try.underlying30 hi hz0 hz1 _ _ _ _ 6 rfl rfl rfl rfl (by rw [hz2]; decide) (by decide) hb5.size ?_; intro w6 hown6 hg6))
  obtain ⟨g2, hg2⟩ : ∃ g2, g2 = w4.heap.size := ⟨_, rfl⟩
  have hr2 : Row6 w6 g2 (fun _ => 0) := by
    rw [hg2]
    exact Row6.zero hown6 rfl (by first | kernel_rfl | decide)
  have hb6 : Below w4.heap.size w4 w6 := (Below.refl _ _).grown hg6 (Nat.le_refl _) (fun k e => by cases e)
  have hr1 := hrow.bel hb6 hgl
  have hb7 := hb5.trans (hb6.mono hb5.size)
  have hw6 : g2 < w6.heap.size := by
    rw [hg2]
    exact (World.ownsRow.lt hown6 _ rfl).2
  have hgl6 : g < w6.heap.size := Nat.lt_of_lt_of_le hgl hb6.size
  have hne : g2 ≠ g := by omega
  have hWg2 : W.heap.size ≤ g2 := by rw [hg2]; exact hb5.size
  rw [← hg2]
  have HR1' := Lib.hid hr1
  have HR2' := Lib.hid hr2
  have HB7 := Lib.hid hb7
  have HPf := Lib.hid hperm
  clear hr1 hr2 hb6 hb7 hown6 hg6 hrow hb5 hb4 hb3 hg hg2 hperm hgl
  go_loopw [7] (fun t wr => ∃ (i : Nat) (h : Nat → Int), t = .int .i64 i ∧ i ≤ 6 ∧ Perm2 W wr g g2 f h ∧ (∀ j, j < i → h (f j).toNat = j) ∧ (∀ v, v < 6 → 0 ≤ h v ∧ h v < 6)) (fun t _ => 6 - (intOf t).toNat)
  case atStart => exact ⟨0, fun _ => 0, rfl, Nat.zero_le _, ⟨HB7.out, HR1'.out, HR2'.out, hgl6, hw6⟩, fun j hj => absurd hj (by omega), fun v _ => by dsimp only; omega⟩
  case round =>
    obtain ⟨i, h, rfl, hi6, hP, hinv, hrg⟩ := hrel
    by_cases hlt : i < 6
    · obtain ⟨p1, p2⟩ := HPf.out
      have pf := p1 i hlt
      obtain ⟨d, hd⟩ : ∃ d : Nat, f i = d := ⟨(f i).toNat, by omega⟩
      obtain ⟨c0, _⟩ := hP.r1 i hlt
      obtain ⟨c1, c2⟩ := hP.r2 d (by omega)
      rw [hd] at c0
      have hP2 : Perm2 W (wr.setCell ⟨g2, d, none⟩ (.int .i64 (i : Int))) g g2 f (fun v => if v = d then (i : Int) else h v) :=
        ⟨hP.bel.setCell (p := ⟨g2, d, none⟩) hWg2 _, hP.r1.other hne _ _, hP.r2.put _ (by omega), by have := hP.l1; simpa using this, by have := hP.l2; simpa using this⟩
      have hinv2 : ∀ j, j < i + 1 → (fun v => if v = d then (i : Int) else h v) (f j).toNat = j := by
        intro j hj
        dsimp only
        by_cases hji : j = i
        · subst hji
          rw [hd, Int.toNat_natCast, if_pos rfl]
        · have hj6 : j < 6 := by omega
          have hne2 : (f j).toNat ≠ d := by
            intro e
            have q := p1 j hj6
            exact hji (p2 j i hj6 hlt (by rw [hd]; omega))
          rw [if_neg hne2]
          exact hinv j (by omega)
      have hrg2 : ∀ v, v < 6 → 0 ≤ (fun v => if v = d then (i : Int) else h v) v ∧ (fun v => if v = d then (i : Int) else h v) v < 6 := by
        intro v hv6
        dsimp only
        split
        · omega
        · exact hrg v hv6
      have HP2 := Lib.hid hP2
      have HI2 := Lib.hid hinv2
      have HG2 := Lib.hid hrg2
      have hi0 : (0 : Int) ≤ i := by omega
      have hi5 : (i : Int) < 6 := by omega
      have hd0 : (0 : Int) ≤ d := by omega
      have hd5 : (d : Int) < 6 := by omega
      clear hP2 hinv2 hrg2 hinv hrg p1 p2 pf hP hd
      go_wp2
      go_roundw
      case rel => exact ⟨i + 1, _, by go_num, by omega, HP2.out, HI2.out, HG2.out⟩
      case measure => simp [intOf]; omega
    · obtain rfl : i = 6 := by omega
      have hrange := HPf.out.1
      have hinj := HPf.out.2
      have hr1 := ren_ok HVd.out hrange
      have hr2 := ren_back HVd.out hrange hinv hrg
      have hbits5 := fun i (hi : i < 6) => reads_ren (op := 5) HVd.out (rowL_names hrange) (fun i j h1 h2 e => hinj i j h1 h2 (by rw [rowL_at f h1, rowL_at f h2] at e; exact e)) (.inl rfl) hi
      have hbits12 := fun i (hi : i < 6) => reads_ren (op := 12) HVd.out (rowL_names hrange) (fun i j h1 h2 e => hinj i j h1 h2 (by rw [rowL_at f h1, rowL_at f h2] at e; exact e)) (.inr rfl) hi
      have hyl : (renL xs (rowL f)).length = m := by rw [renL_len, HM.out]
      have hyf := ren_fits hr1 HFit.out
      have HR1 := Lib.hid (fun (X : World) (p : Perm2 W X g g2 f h) => (by
        have q := HN1.out X g f p.bel (p.r1.ints p.l1 hrange)
        rw [rowL_len, hr1] at q
        exact q.mono (R' := fun e w' => (∃ a' c', e = .returned (.tuple #[.slice a' m c', .int .i64 0]) ∧ LinksAt w' a' (renL xs (rowL f))) ∧ Below X.heap.size X w') (fun e w' hh => ⟨by
          obtain ⟨v, rfl, ho⟩ := hh.1
          obtain ⟨a', c', rfl, _⟩ := OwnT.shape ho
          exact ⟨a', c', by rw [hyl], OwnT.links ho hyf⟩, hh.2⟩) : Calls Try.prog 22 #[.slice a m c, .slice (some ⟨g, 0, none⟩) 6 6] X fun e w' => (∃ a' c', e = .returned (.tuple #[.slice a' m c', .int .i64 0]) ∧ LinksAt w' a' (renL xs (rowL f))) ∧ Below X.heap.size X w'))
      have HR2 := Lib.hid (fun (X : World) (a1 : Option Addr) (c1 : Nat) (p : Perm2 W X g g2 f h) (hx : LinksAt X a1 (renL xs (rowL f))) => (by
        have q := renameP_any a1 c1 (renL xs (rowL f)) (some ⟨g2, 0, none⟩) 6 (rowL h) X hx (by rw [hyl, HM.out]; have := HLe.out; omega) (p.r2.ints p.l2 hrg)
        rw [rowL_len, hr2, hyl] at q
        exact q.mono (R' := fun e w' => (∃ a' c', e = .returned (.tuple #[.slice a' m c', .int .i64 0]) ∧ LinksAt w' a' xs) ∧ Below X.heap.size X w') (fun e w' hh => ⟨by
          obtain ⟨v, rfl, ho⟩ := hh.1
          obtain ⟨a', c', rfl, _⟩ := OwnT.shape ho
          exact ⟨a', c', by rw [HM.out], OwnT.links ho HFit.out⟩, hh.2⟩) : Calls Try.prog 22 #[.slice a1 m c1, .slice (some ⟨g2, 0, none⟩) 6 6] X fun e w' => (∃ a' c', e = .returned (.tuple #[.slice a' m c', .int .i64 0]) ∧ LinksAt w' a' xs) ∧ Below X.heap.size X w'))
      have HS2 := Lib.hid (fun (X : World) (a1 : Option Addr) (c1 : Nat) (hx : LinksAt X a1 (renL xs (rowL f))) => (by
        have q := readsP_any a1 c1 (renL xs (rowL f)) X hx (by rw [hyl, HM.out]; have := HLe.out; omega)
        rw [hyl] at q
        exact q : Calls Try.prog 24 #[.slice a1 m c1] X fun e w' => e = .returned (.tuple #[.int .u32 (readsF 5 (renL xs (rowL f))), .int .u32 (readsF 12 (renL xs (rowL f)))]) ∧ Below X.heap.size X w'))
      have l1 := readsF_lt (.inl rfl : (5 : Int) = 5 ∨ (5 : Int) = 12) xs
      have l2 := readsF_lt (.inr rfl : (12 : Int) = 5 ∨ (12 : Int) = 12) xs
      have l3 := readsF_lt (.inl rfl : (5 : Int) = 5 ∨ (5 : Int) = 12) (renL xs (rowL f))
      have l4 := readsF_lt (.inr rfl : (12 : Int) = 5 ∨ (12 : Int) = 12) (renL xs (rowL f))
      generalize readsF 5 xs = q1 at HS1 hbits5 l1
      generalize readsF 12 xs = q2 at HS1 hbits12 l2
      generalize readsF 5 (renL xs (rowL f)) = q3 at HS2 hbits5 l3
      generalize readsF 12 (renL xs (rowL f)) = q4 at HS2 hbits12 l4
      have HB5 : Hid (∀ i, i < 6 → bits .and .u32 ((q1 : Int) / 2 ^ i) 1 = bits .and .u32 ((q3 : Int) / 2 ^ (f i).toNat) 1) := Lib.hid (fun i hi => by rw [bit_and q1 i l1, bit_and q3 _ l3, hbits5 i hi, rowL_at f hi])
      have HB12 : Hid (∀ i, i < 6 → bits .and .u32 ((q2 : Int) / 2 ^ i) 1 = bits .and .u32 ((q4 : Int) / 2 ^ (f i).toNat) 1) := Lib.hid (fun i hi => by rw [bit_and q2 i l2, bit_and q4 _ l4, hbits12 i hi, rowL_at f hi])
      have HRg := Lib.hid hrange
      generalize renL xs (rowL f) = ys at *
      clear hbits5 hbits12 l1 l2 l3 l4 hr1 hr2 hyl hyf hinj hinv hrg hrange
      go_wp2_with (first | (go_at_call 22; first | ((with_reducible refine (HR1.out _ hP).mono ?_); rintro e wN ⟨⟨x1, y1, rfl, hx⟩, hbN⟩; replace hP := hP.step hbN) | ((with_reducible refine (HR2.out _ x1 y1 hP hx).mono ?_); rintro e wN ⟨⟨x2, y2, rfl, hy⟩, hbN⟩; replace hP := hP.step hbN; replace hx := hx.below hbN)) | (go_at_call 24; first | ((with_reducible refine (HS1.out _ hP.bel).mono ?_); rintro e wN ⟨rfl, hbN⟩; replace hP := hP.step hbN; replace hx := hx.below hbN; replace hy := hy.below hbN) | ((with_reducible refine (HS2.out _ x1 y1 hx).mono ?_); rintro e wN ⟨rfl, hbN⟩; replace hP := hP.step hbN; replace hx := hx.below hbN; replace hy := hy.below hbN)))
      have HP := Lib.hid hP
      have HXx := Lib.hid hx
      have HYy := Lib.hid hy
      obtain ⟨wo, hwo⟩ : ∃ wo : World, wo = wN := ⟨_, rfl⟩
      rw [← hwo] at HP HXx HYy ⊢
      clear hP hx hy hwo
      go_loopw [16] (fun t wq => ∃ j : Nat, t = .int .i64 j ∧ j ≤ 6 ∧ wq = wo) (fun t _ => 6 - (intOf t).toNat)
      case atStart => exact ⟨0, rfl, Nat.zero_le _, rfl⟩
      case round =>
        obtain ⟨j, rfl, hj6, rfl⟩ := hrel
        by_cases hjlt : j < 6
        · obtain ⟨c0, _⟩ := HP.out.r1 j hjlt
          have hf := HRg.out j hjlt
          have e5 := HB5.out j hjlt
          have e12 := HB12.out j hjlt
          obtain ⟨d, hd⟩ : ∃ d : Nat, f j = d := ⟨(f j).toNat, by omega⟩
          rw [hd] at c0 hf e5 e12
          rw [Int.toNat_natCast] at e5 e12
          have hj0 : (0 : Int) ≤ j := by omega
          have hj5 : (j : Int) < 6 := by omega
          have hd0 : (0 : Int) ≤ d := by omega
          have hd5 : (d : Int) < 6 := by omega
          clear hd hf
          go_wp2
          go_roundw
          case rel => exact ⟨j + 1, by go_num, by omega, by first | rfl | trivial⟩
          case measure => simp [intOf]; omega
        · obtain rfl : j = 6 := by omega
          have hP := HP.out
          have hy := HYy.out
          go_wp2_with (first | (go_at_call 11; refine (HAw.out _ hP.bel).mono ?_; rintro e wN ⟨rfl, hbN⟩; replace hP := hP.step hbN; replace hy := hy.below hbN) | (go_at_call 28; refine (HSm.out _ _ _ hP.bel hy).mono ?_; rintro e wN ⟨rfl, hbN⟩; replace hP := hP.step hbN))
          go_ret
          exact ⟨by first | rfl | (simp; done), hP.bel⟩

set_option maxRecDepth 100000 in
theorem lifted (os : Os) (started : os.Started) (H : Type) (enc : TypeId × Value → H) :
    ReturnsInHanded {} Try.checked os 8 .any (Rows.termRenamesBackSpec.pre6 enc Try.prog Try.f8 Rows.termRenamesBackRow.domain false) (Rows.termRenamesBackSpec.post enc Try.prog Try.f8 false true false false) := by
  refine returnsInHanded_of_change (C := Try.checked) own started (by kernel_rfl) Try.func8
    (ChangeSpec.witness6 (enc := enc) (C := Try.checked) false ⟨#[], #[.slice none 0 0, .slice none 0 0], []⟩ 8 (by kernel_rfl) (by kernel_rfl) (by kernel_rfl) (by kernel_rfl)) ?_
  intro W base args ds gs before hval0 hW hcnd _
  have hval : ∀ (j : Nat) t v, Try.f8.params[j]? = some t → args[j]? = some v → Value.okWide Try.prog W .any base t v := hval0
  have hW' := hW
  obtain ⟨p, q, hA0, hV, rfl, hfz, hnd⟩ := hW
  have hA : DataW.TrodAll enc Try.prog W 0 (fun _ => true) true Try.f8.params.toList args.toList ds p := hA0
  rw [Try.params8] at hA hval
  obtain ⟨v0, vs0, d0, ds0, p0, q0, hargs, rfl, rfl, h0, r0⟩ := trodAll_cons hA
  obtain ⟨v1, vs1, d1, ds1, p1, q1, rfl, rfl, rfl, h1, r1⟩ := trodAll_cons r0
  obtain ⟨rfl, rfl, rfl⟩ := trodAll_nil r1
  obtain rfl : args = #[v0, v1] := by cases args; simp_all
  obtain ⟨rfl, rfl⟩ := trodVars_none hV
  have k0 := h0
  have lt0 : ∀ x ∈ p0, x.block < W.heap.size := by obtain ⟨m, hm⟩ := k0; exact DataW.trod_lt m _ _ _ hm
  obtain ⟨sa0, sl0, sc0, rfl⟩ := okWide_slice Try.underlying22 (hval 0 22 v0 rfl rfl)
  obtain ⟨m0, hm0⟩ := h0
  obtain ⟨xa0, xl0, xc0, zs0, hv0, hl0, hI0⟩ := links_of Try.underlying22 Try.underlying41 (by kernel_rfl) (by kernel_rfl) rfl rfl Try.underlying3 hm0
  injection hv0 with e0a e0b e0c
  subst e0a e0b e0c hl0
  have k1 := h1
  have lt1 : ∀ x ∈ p1, x.block < W.heap.size := by obtain ⟨m, hm⟩ := k1; exact DataW.trod_lt m _ _ _ hm
  obtain ⟨sa1, sl1, sc1, rfl⟩ := okWide_slice Try.underlying30 (hval 1 30 v1 rfl rfl)
  obtain ⟨m1, hm1⟩ := h1
  obtain ⟨xa1, xl1, xc1, zs1, hv1, hl1, hI1⟩ := ints_of Try.underlying30 Try.underlying3 (by kernel_rfl) hm1
  injection hv1 with e1a e1b e1c
  subst e1a e1b e1c hl1
  clear hA0 hval0
  refine (walk W sa0 sc0 zs0 hI0 sa1 sc1 zs1 hI1).mono fun e W' ⟨he, bel⟩ => ?_
  subst he
  exact ⟨_, rfl, _, _, _, [], _, [], hW', trodAll_mk1 (shut_bool Try.underlying4 _), (trodAll_cons_mk (Below.trod laidOut (by kernel_rfl) (of_decide_eq_true (by kernel_rfl)) k0 bel lt0) (trodAll_cons_mk (Below.trod laidOut (by kernel_rfl) (of_decide_eq_true (by kernel_rfl)) k1 bel lt1) trodAll_mk0)), rfl, bel.frame _, fun h => by cases h⟩

theorem over : Rows.termRenamesBackRow.holds Try.pinned (OpenSpec.ofChange Rows.termRenamesBackSpec) :=
  OpenClaim.holds_of_wide 8 Try.f8 rfl rfl rfl rfl rfl rfl rfl ⟨rfl, rfl, rfl, rfl, rfl⟩ rfl rfl rfl rfl rfl (by kernel_rfl) Try.func8 (by kernel_rfl)
    (of_decide_eq_true (by kernel_rfl)) (by unfold Func.isWrapper; first | (rw [if_pos (by decide +kernel)]; kernel_rfl) | (rw [if_neg (by decide +kernel)]; exact ⟨rfl, rfl⟩))
    (fun os started H enc _ => lifted os started H enc)

theorem proved : Rows.TermRenamesBackSaid := over
end Go.Proofs.Ytbcndmlhbdanaaa.lawTermRenamesBack
