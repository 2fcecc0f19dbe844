/- TermChecks: for every list of terms, every number of variables and every renaming, Valid, Rename and Reads of the program and of the specification answer the same where the law asks it. No condition. -/
import Derived.Test.YtbcndmlhbdanaaaTermArg
import Derived.ChangeMaps5
namespace Go.Proofs.Ytbcndmlhbdanaaa.lawTermChecks
open Go.RowKit Go.ChangeShapes Go.WideShapes Go.Proofs.Ytbcndmlhbdanaaa

set_option maxHeartbeats 4000000 in
theorem walk (W : World) (a : Option Addr) (c : Nat) (xs : List (Int × Int)) (hX : LinksAt W a xs) (vars : Int) (wf1 : (Lit.int IntKind.i64 vars).wf = true) (ma : Option Addr) (mc : Nat) (zs : List Int) (hZ : IntsAt W ma zs) :
    Calls Try.prog 4 #[.slice a xs.length c, .int .i64 vars, .slice ma zs.length mc] W fun e W' => e = .returned (.bool true) ∧ Below W.heap.size W W' := by
  have HAw := Lib.hid (fun (X : World) (_ : Below W.heap.size W X) => awake_any X)
  have h64 : I64 vars := by
    unfold I64
    simpa [Lit.wf, IntKind.min, IntKind.max, IntKind.bits, IntKind.signed] using wf1
  by_cases hl : xs.length ≤ 250 ∧ zs.length ≤ 40
  case neg =>
    by_cases h1 : xs.length ≤ 250
    · have hl' : decide (xs.length ≤ 250) = true := decide_eq_true h1
      have d1 : decide ((zs.length : Int) > 40) = true := by simp; omega
      generalize xs.length = m at hl' ⊢
      generalize zs.length = n at d1 ⊢
      clear hX hZ hl h1 wf1 h64
      have hB0 := Below.refl W.heap.size W
      go_enter Try.func4, Try.ntmps4
      go_wp2_with (first | (go_at_call 10; refine (lightE_any a m c _).mono ?_; rintro e w1 ⟨rfl, rfl⟩; rw [hl']) | (go_at_call 11; refine (HAw.out _ (Below.refl _ _)).mono ?_; rintro e w2 ⟨rfl, hb2⟩))
      go_ret
      exact ⟨rfl, hb2⟩
    · have hl' : decide (xs.length ≤ 250) = false := decide_eq_false h1
      generalize xs.length = m at hl' ⊢
      generalize zs.length = n
      clear hX hZ hl h1 wf1 h64
      have hB0 := Below.refl W.heap.size W
      go_enter Try.func4, Try.ntmps4
      go_wp2_with (first | (go_at_call 10; refine (lightE_any a m c _).mono ?_; rintro e w1 ⟨rfl, rfl⟩; rw [hl']) | (go_at_call 11; refine (HAw.out _ (Below.refl _ _)).mono ?_; rintro e w2 ⟨rfl, hb2⟩))
      go_ret
      exact ⟨rfl, hb2⟩
  obtain ⟨hl, hzl⟩ := hl
  have hl' : decide (xs.length ≤ 250) = true := decide_eq_true hl
  have d1 : decide ((zs.length : Int) > 40) = false := by simp; omega
  have HV1 := Lib.hid (fun (X : World) (h : Below W.heap.size W X) => validP_any a c xs vars X (hX.below h) (by omega) h64)
  have HV2 := Lib.hid (fun (X : World) (h : Below W.heap.size W X) => validR_any a c xs vars X (hX.below h) (by omega))
  have HS1 := Lib.hid (fun (X : World) (h : Below W.heap.size W X) => readsP_any a c xs X (hX.below h) (by omega))
  have HS2 := Lib.hid (fun (X : World) (h : Below W.heap.size W X) => readsR_any a c xs X (hX.below h) (by omega))
  have HN1 := Lib.hid (fun (X : World) (h : Below W.heap.size W X) => renameP_any a c xs ma mc zs X (hX.below h) (by omega) (hZ.below h))
  have HN2 := Lib.hid (fun (X : World) (h : Below W.heap.size W X) => renameR_any a c xs ma mc zs X (hX.below h) (by omega) (hZ.below h))
  have hfit := hX.fits
  generalize validE xs vars = z1 at HV1 HV2
  generalize readsF 5 xs = z2 at HS1 HS2
  generalize readsF 12 xs = z3 at HS1 HS2
  have hB0 := Below.refl W.heap.size W
  cases hr : renO xs zs with
  | inl k =>
    rw [hr] at HN1 HN2
    have HR1 := Lib.hid (fun (X : World) (h : Below W.heap.size W X) => (HN1.out X h).mono (R' := fun e w' => e = .returned (.tuple #[.slice none 0 0, .int .i64 k]) ∧ Below X.heap.size X w') (fun e w' h => h))
    have HR2 := Lib.hid (fun (X : World) (h : Below W.heap.size W X) => (HN2.out X h).mono (R' := fun e w' => e = .returned (.tuple #[.slice none 0 0, .int .i64 k]) ∧ Below X.heap.size X w') (fun e w' h => h))
    have HSame : Hid (∀ X : World, Calls Try.prog 28 #[.slice none 0 0, .slice none 0 0] X fun e w' => e = .returned (.bool true) ∧ Below X.heap.size X w') := Lib.hid (fun X => sameR_any none none 0 0 [] [] X (nil_links X) (nil_links X) (by decide) (by decide))
    clear HN1 HN2 hfit hr
    generalize xs.length = m at *
    generalize zs.length = n at *
    clear hX hZ hl hzl h64 wf1
    go_enter Try.func4, Try.ntmps4
    go_wp2_with (first | (go_at_call 10; refine (lightE_any a m c _).mono ?_; rintro e w0 ⟨rfl, rfl⟩; rw [hl']) | (go_at_call 22; refine (HR1.out _ hB0).mono ?_; rintro e w1 ⟨rfl, hb1⟩; have hB1 := hB0.trans (hb1.mono hB0.size)) | (go_at_call 23; refine (HR2.out _ hB1).mono ?_; rintro e w2 ⟨rfl, hb2⟩; have hB2 := hB1.trans (hb2.mono hB1.size)) | (go_at_call 24; refine (HS1.out _ hB2).mono ?_; rintro e w3 ⟨rfl, hb3⟩; have hB3 := hB2.trans (hb3.mono hB2.size)) | (go_at_call 25; refine (HS2.out _ hB3).mono ?_; rintro e w4 ⟨rfl, hb4⟩; have hB4 := hB3.trans (hb4.mono hB3.size)) | (go_at_call 11; refine (HAw.out _ hB4).mono ?_; rintro e w5 ⟨rfl, hb5⟩; have hB5 := hB4.trans (hb5.mono hB4.size)) | (go_at_call 26; refine (HV1.out _ hB5).mono ?_; rintro e w6 ⟨rfl, hb6⟩; have hB6 := hB5.trans (hb6.mono hB5.size)) | (go_at_call 27; refine (HV2.out _ hB6).mono ?_; rintro e w7 ⟨rfl, hb7⟩; have hB7 := hB6.trans (hb7.mono hB6.size)) | (go_at_call 28; refine (HSame.out _).mono ?_; rintro e w8 ⟨rfl, hb8⟩; have hB8 := hB7.trans (hb8.mono hB7.size)))
    go_ret
    exact ⟨by first | rfl | (simp; done), hB8⟩
  | inr ys =>
    have hys := ren_len hr
    have hyf := ren_fits hr hfit
    rw [hr] at HN1 HN2
    have HR1 := Lib.hid (fun (X : World) (h : Below W.heap.size W X) => (HN1.out X h).mono (R' := fun e w' => (∃ a' c', e = .returned (.tuple #[.slice a' ys.length c', .int .i64 0]) ∧ LinksAt w' a' ys) ∧ Below X.heap.size X w') (fun e w' h => ⟨by
      obtain ⟨v, rfl, ho⟩ := h.1
      obtain ⟨a', c', rfl, _⟩ := OwnT.shape ho
      exact ⟨a', c', rfl, OwnT.links ho hyf⟩, h.2⟩))
    have HR2 := Lib.hid (fun (X : World) (h : Below W.heap.size W X) => (HN2.out X h).mono (R' := fun e w' => (∃ a' c', e = .returned (.tuple #[.slice a' ys.length c', .int .i64 0]) ∧ LinksAt w' a' ys) ∧ Below X.heap.size X w') (fun e w' h => ⟨by
      obtain ⟨v, rfl, ho⟩ := h.1
      obtain ⟨a', c', rfl, _⟩ := OwnT.shape ho
      exact ⟨a', c', rfl, OwnT.links ho hyf⟩, h.2⟩))
    have hyl : ys.length ≤ 1000000 := by omega
    have HSame : Hid (∀ (a1 a2 : Option Addr) (c1 c2 : Nat) (X : World), LinksAt X a1 ys → LinksAt X a2 ys → Calls Try.prog 28 #[.slice a1 ys.length c1, .slice a2 ys.length c2] X fun e w' => e = .returned (.bool true) ∧ Below X.heap.size X w') := Lib.hid (fun a1 a2 c1 c2 X h1 h2 => (sameR_any a1 a2 c1 c2 ys ys X h1 h2 hyl hyl).mono (fun e w' h => ⟨by rw [h.1, decide_eq_true rfl], h.2⟩))
    clear HN1 HN2 hfit hr hyf hys
    generalize xs.length = m at *
    generalize zs.length = n at *
    clear hX hZ hl hzl h64 wf1
    go_enter Try.func4, Try.ntmps4
    go_wp2_with (first | (go_at_call 10; refine (lightE_any a m c _).mono ?_; rintro e w0 ⟨rfl, rfl⟩; rw [hl']) | (go_at_call 22; refine (HR1.out _ hB0).mono ?_; rintro e w1 ⟨⟨x1, y1, rfl, hx1⟩, hb1⟩; have hB1 := hB0.trans (hb1.mono hB0.size)) | (go_at_call 23; refine (HR2.out _ hB1).mono ?_; rintro e w2 ⟨⟨x2, y2, rfl, hx2⟩, hb2⟩; have hB2 := hB1.trans (hb2.mono hB1.size)) | (go_at_call 24; refine (HS1.out _ hB2).mono ?_; rintro e w3 ⟨rfl, hb3⟩; have hB3 := hB2.trans (hb3.mono hB2.size)) | (go_at_call 25; refine (HS2.out _ hB3).mono ?_; rintro e w4 ⟨rfl, hb4⟩; have hB4 := hB3.trans (hb4.mono hB3.size)) | (go_at_call 11; refine (HAw.out _ hB4).mono ?_; rintro e w5 ⟨rfl, hb5⟩; have hB5 := hB4.trans (hb5.mono hB4.size)) | (go_at_call 26; refine (HV1.out _ hB5).mono ?_; rintro e w6 ⟨rfl, hb6⟩; have hB6 := hB5.trans (hb6.mono hB5.size)) | (go_at_call 27; refine (HV2.out _ hB6).mono ?_; rintro e w7 ⟨rfl, hb7⟩; have hB7 := hB6.trans (hb7.mono hB6.size); have k1 := hx1.below (hb2.trans ((hb3.mono hb2.size).trans ((hb4.mono (Nat.le_trans hb2.size hb3.size)).trans ((hb5.mono (Nat.le_trans (Nat.le_trans hb2.size hb3.size) hb4.size)).trans ((hb6.mono (Nat.le_trans (Nat.le_trans (Nat.le_trans hb2.size hb3.size) hb4.size) hb5.size)).trans (hb7.mono (Nat.le_trans (Nat.le_trans (Nat.le_trans (Nat.le_trans hb2.size hb3.size) hb4.size) hb5.size) hb6.size))))))); have k2 := hx2.below (hb3.trans ((hb4.mono hb3.size).trans ((hb5.mono (Nat.le_trans hb3.size hb4.size)).trans ((hb6.mono (Nat.le_trans (Nat.le_trans hb3.size hb4.size) hb5.size)).trans (hb7.mono (Nat.le_trans (Nat.le_trans (Nat.le_trans hb3.size hb4.size) hb5.size) hb6.size))))))) | (go_at_call 28; refine (HSame.out x1 x2 y1 y2 _ k1 k2).mono ?_; rintro e w8 ⟨rfl, hb8⟩; have hB8 := hB7.trans (hb8.mono hB7.size)))
    go_ret
    exact ⟨by first | rfl | (simp; done), hB8⟩

set_option maxRecDepth 100000 in
theorem lifted (os : Os) (started : os.Started) (H : Type) (enc : TypeId × Value → H) :
    ReturnsInHanded {} Try.checked os 4 .any (Rows.termChecksSpec.pre6 enc Try.prog Try.f4 Rows.termChecksRow.domain false) (Rows.termChecksSpec.post enc Try.prog Try.f4 false true false false) := by
  refine returnsInHanded_of_change (C := Try.checked) own started (by kernel_rfl) Try.func4
    (ChangeSpec.witness6 (enc := enc) (C := Try.checked) false ⟨#[], #[.slice none 0 0, .int .i64 0, .slice none 0 0], []⟩ 8 (by kernel_rfl) (by kernel_rfl) (by kernel_rfl) (by kernel_rfl)) ?_
  intro W base args ds gs before hval0 hW hcnd _
  have hval : ∀ (j : Nat) t v, Try.f4.params[j]? = some t → args[j]? = some v → Value.okWide Try.prog W .any base t v := hval0
  have hW' := hW
  obtain ⟨p, q, hA0, hV, rfl, hfz, hnd⟩ := hW
  have hA : DataW.TrodAll enc Try.prog W 0 (fun _ => true) true Try.f4.params.toList args.toList ds p := hA0
  rw [Try.params4] at hA hval
  obtain ⟨v0, vs0, d0, ds0, p0, q0, hargs, rfl, rfl, h0, r0⟩ := trodAll_cons hA
  obtain ⟨v1, vs1, d1, ds1, p1, q1, rfl, rfl, rfl, h1, r1⟩ := trodAll_cons r0
  obtain ⟨v2, vs2, d2, ds2, p2, q2, rfl, rfl, rfl, h2, r2⟩ := trodAll_cons r1
  obtain ⟨rfl, rfl, rfl⟩ := trodAll_nil r2
  obtain rfl : args = #[v0, v1, v2] := by cases args; simp_all
  obtain ⟨rfl, rfl⟩ := trodVars_none hV
  have k0 := h0
  have lt0 : ∀ x ∈ p0, x.block < W.heap.size := by obtain ⟨m, hm⟩ := k0; exact DataW.trod_lt m _ _ _ hm
  obtain ⟨sa0, sl0, sc0, rfl⟩ := okWide_slice Try.underlying22 (hval 0 22 v0 rfl rfl)
  obtain ⟨m0, hm0⟩ := h0
  obtain ⟨xa0, xl0, xc0, zs0, hv0, hl0, hI0⟩ := links_of Try.underlying22 Try.underlying41 (by kernel_rfl) (by kernel_rfl) rfl rfl Try.underlying3 hm0
  injection hv0 with e0a e0b e0c
  subst e0a e0b e0c hl0
  have k1 := h1
  have lt1 : ∀ x ∈ p1, x.block < W.heap.size := by obtain ⟨m, hm⟩ := k1; exact DataW.trod_lt m _ _ _ hm
  obtain ⟨a1, rfl, rfl, rfl, w1⟩ := open_int Try.underlying3 (hval 1 3 v1 rfl rfl) h1
  have k2 := h2
  have lt2 : ∀ x ∈ p2, x.block < W.heap.size := by obtain ⟨m, hm⟩ := k2; exact DataW.trod_lt m _ _ _ hm
  obtain ⟨sa2, sl2, sc2, rfl⟩ := okWide_slice Try.underlying30 (hval 2 30 v2 rfl rfl)
  obtain ⟨m2, hm2⟩ := h2
  obtain ⟨xa2, xl2, xc2, zs2, hv2, hl2, hI2⟩ := ints_of Try.underlying30 Try.underlying3 (by kernel_rfl) hm2
  injection hv2 with e2a e2b e2c
  subst e2a e2b e2c hl2
  clear hA0 hval0
  refine (walk W sa0 sc0 zs0 hI0 a1 w1 sa2 sc2 zs2 hI2).mono fun e W' ⟨he, bel⟩ => ?_
  subst he
  exact ⟨_, rfl, _, _, _, [], _, [], hW', trodAll_mk1 (shut_bool Try.underlying4 _), (trodAll_cons_mk (Below.trod laidOut (by kernel_rfl) (of_decide_eq_true (by kernel_rfl)) k0 bel lt0) (trodAll_cons_mk (Below.trod laidOut (by kernel_rfl) (of_decide_eq_true (by kernel_rfl)) k1 bel lt1) (trodAll_cons_mk (Below.trod laidOut (by kernel_rfl) (of_decide_eq_true (by kernel_rfl)) k2 bel lt2) trodAll_mk0))), rfl, bel.frame _, fun h => by cases h⟩

theorem over : Rows.termChecksRow.holds Try.pinned (OpenSpec.ofChange Rows.termChecksSpec) :=
  OpenClaim.holds_of_wide 4 Try.f4 rfl rfl rfl rfl rfl rfl rfl ⟨rfl, rfl, rfl, rfl, rfl⟩ rfl rfl rfl rfl rfl (by kernel_rfl) Try.func4 (by kernel_rfl)
    (of_decide_eq_true (by kernel_rfl)) (by unfold Func.isWrapper; first | (rw [if_pos (by decide +kernel)]; kernel_rfl) | (rw [if_neg (by decide +kernel)]; exact ⟨rfl, rfl⟩))
    (fun os started H enc _ => lifted os started H enc)

theorem proved : Rows.TermChecksSaid := over
end Go.Proofs.Ytbcndmlhbdanaaa.lawTermChecks
