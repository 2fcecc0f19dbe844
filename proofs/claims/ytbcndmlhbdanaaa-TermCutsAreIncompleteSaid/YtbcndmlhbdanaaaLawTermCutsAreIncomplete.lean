/- TermCutsAreIncomplete: for every list of terms, every place and every term, no proper beginning of an expression is one, and neither is an expression with a term behind it. No condition. -/
import Derived.Test.YtbcndmlhbdanaaaTermArg
import Derived.Test.YtbcndmlhbdanaaaTermMod
import Derived.ChangeMaps5
namespace Go.Proofs.Ytbcndmlhbdanaaa.lawTermCutsAreIncomplete
open Go.RowKit Go.ChangeShapes Go.WideShapes Go.Proofs.Ytbcndmlhbdanaaa

/-- a copy of a list of terms, as one step of a region that draws -/
theorem step_copyT {ops : Array Oper} {o : Oper} {a : Act} {w : World} {K : Act → World → Prop} {Q : Exit → Act → World → Prop} {E : Prop} (hgd : o.guard = none) (s x : Operand) (ho : o.op = .call { callee := .builtin .append, args := #[s, x], argTypes := #[22, 22] })
    (la : Option Addr) (lc : Nat) (xs : List (Int × Int)) (m : Nat) (hm : m = xs.length) (hs' : a.eval s = .slice none 0 0) (hx : a.eval x = .slice la m lc) (h : LinksAt w la xs) (hl : xs.length ≤ 1000000)
    (hK : ∀ a' c' w', OwnT w.heap.size w' (.slice a' m c') xs → Below w.heap.size w w' → K (a.put o.dst (.slice a' m c')) w') :
    if Region.wanted o (yielded ops a.tmps) = true then Oper.wp Try.prog o a w K Q else E := by
  subst hm
  obtain ⟨i, hi, hz, hz1, hz2⟩ := info_parts infoTerm
  have hw : Region.wanted o (yielded ops a.tmps) = true := by simp [Region.wanted, hgd]
  rw [if_pos hw]
  obtain ⟨v', w', hr, h2, h3⟩ := run_copy (P := Try.prog) (w := w) 22 o.type 41 i (.agg #[.int .i64 0, .int .i64 0]) 2 16 Try.underlying22 hi hz hz1 hz2 rfl (by decide) la xs.length lc (linkVs xs) (linkVs_len xs) (fun ad e => by
    subst e
    intro j u hj
    have hlt : 0 < xs.length := by
      have := (List.getElem?_eq_some_iff.1 hj).1
      rw [linkVs_len] at this
      omega
    obtain ⟨b, off, e, _⟩ := h.row hlt
    injection e with e
    subst e
    exact links_cells h j u hj) (fun e => by
    rcases Nat.eq_zero_or_pos xs.length with h0 | h0
    · exact h0
    · obtain ⟨b, off, e', _⟩ := h.row h0
      rw [e] at e'
      cases e') linkVs_one hl (by decide)
  have h2' : OwnT w.heap.size w' v' xs := h2
  obtain ⟨a', c', e, _⟩ := h2'.shape
  subst e
  unfold Oper.wp execOp
  simp only [ho, resolve, invoke, builtin, Sem.run_bind, Sem.run_pure, Result.andThen_ok, List.map_toArray, List.map_cons, List.map_nil, hs', hx, hr]
  exact hK a' c' w' h2' h3
/-- what is known of a list that is not one expression -/
theorem not_one {xs : List (Int × Int)} (h : endF xs 0 ≠ xs.length) : depF xs = 0 ∧ validE xs 6 = false := by
  have h1 : oneB xs = false := by
    rw [one_end]
    simpa using h
  refine ⟨by unfold depF; rw [h1]; rfl, ?_⟩
  unfold validE
  rw [h1]
  simp
theorem cut_says {xs : List (Int × Int)} (h : oneB xs = true) {k : Nat} (hk : k < xs.length) : endF ((xs.drop 0).take k) 0 = -1 ∧ depF ((xs.drop 0).take k) = 0 ∧ validE ((xs.drop 0).take k) 6 = false := by
  have h1 : endF ((xs.drop 0).take k) 0 = -1 := endF_none (p := 0) (by simpa using one_cut h hk)
  have h2 := not_one (xs := (xs.drop 0).take k) (by rw [h1]; omega)
  exact ⟨h1, h2⟩
theorem long_says {xs : List (Int × Int)} (h : oneB xs = true) (t : Int × Int) : endF (xs ++ [t]) 0 = xs.length ∧ depF (xs ++ [t]) = 0 ∧ validE (xs ++ [t]) 6 = false := by
  have h1 : endF (xs ++ [t]) 0 = xs.length := by
    have := endF_some (xs := xs ++ [t]) (p := 0) (n := xs.length) (by simpa using one_long h t)
    simpa using this
  have h2 := not_one (xs := xs ++ [t]) (by rw [h1, List.length_append]; simp; omega)
  exact ⟨h1, h2⟩
theorem own_lo {w : World} {B : Nat} {v : Value} {xs : List (Int × Int)} (h : OwnT B w v xs) {g : Nat} (e : v.ownBlock = some g) : B ≤ g := by
  rcases h.2 with ⟨rfl, _⟩ | ⟨g', cap, cur, rfl, hg, _⟩
  · cases e
  · simp [Value.ownBlock] at e
    omega
set_option maxHeartbeats 16000000 in
theorem walk (W : World) (a : Option Addr) (c : Nat) (xs : List (Int × Int)) (hX : LinksAt W a xs) (hcap : xs.length ≤ c) (p : Int) (wf1 : (Lit.int IntKind.i64 p).wf = true) (ta tb : Int) (wfa : (Lit.int IntKind.i64 ta).wf = true) (wfb : (Lit.int IntKind.i64 tb).wf = true) :
    Calls Try.prog 9 #[.slice a xs.length c, .int .i64 p, .agg #[.int .i64 ta, .int .i64 tb]] W fun e W' => e = .returned (.bool true) ∧ Below W.heap.size W W' := by
  have HAw := Lib.hid (fun (X : World) (_ : Below W.heap.size W X) => awake_any X)
  have h64 := wf_i64 wf1
  have ht64 := And.intro (wf_i64 wfa) (wf_i64 wfb)
  have hB00 := (Below.refl W.heap.size W).alloc (Nat.le_refl _) (.cells #[.int .i64 ta, .int .i64 tb] 41)
  have HB0 := Lib.hid hB00
  have hB00 := Lib.hid hB00
  by_cases hl : xs.length ≤ 250
  case neg =>
    have hl' : decide (xs.length ≤ 250) = false := decide_eq_false hl
    generalize xs.length = m at hl' ⊢
    clear hX hl h64 wf1 wfa wfb ht64 hcap
    go_enter Try.func9, Try.ntmps9
    go_wp2_with (first | (go_at_call 10; refine (lightE_any a m c _).mono ?_; rintro e w1 ⟨rfl, hw1⟩; rw [hl']; subst hw1) | (go_at_call 11; refine (HAw.out _ HB0.out).mono ?_; rintro e w2 ⟨rfl, hb2⟩))
    go_ret
    exact ⟨rfl, belT hb2⟩
  have hl' : decide (xs.length ≤ 250) = true := decide_eq_true hl
  have hX1 := hX.below HB0.out
  have HD2 := Lib.hid (depthR_any a c xs (W.alloc (.cells #[.int .i64 ta, .int .i64 tb] 41)) hX1 (by omega))
  cases h1 : oneB xs with
  | false =>
    have hz : depF xs = 0 := by unfold depF; rw [h1]; rfl
    rw [hz] at HD2
    generalize xs.length = m at *
    clear hX hX1 hl h1 hz h64 wf1 wfa wfb ht64 hcap
    go_enter Try.func9, Try.ntmps9
    go_wp2_with (first | (go_at_call 10; refine (lightE_any a m c _).mono ?_; rintro e w1 ⟨rfl, hw1⟩; rw [hl']; subst hw1) | (go_at_call 19; refine HD2.out.mono ?_; rintro e w3 ⟨rfl, hb3⟩; have hb4 := belT hb3) | (go_at_call 11; refine (HAw.out _ hb4).mono ?_; rintro e w2 ⟨rfl, hb2⟩))
    go_ret
    exact ⟨rfl, hb4.trans (hb2.mono hb4.size)⟩
  | true =>
    have hdp := depF_pos h1
    have dz : (depF xs == 0) = false := by rw [beq_eq_false_iff_ne]; omega
    generalize depF xs = dd at HD2 dz
    have hpos : 1 ≤ xs.length := by
      have h2 := h1
      unfold oneB at h2
      simp only [decide_eq_true_eq] at h2
      exact h2.1
    obtain ⟨k, hk, hkm⟩ := mod_nat p hpos
    obtain ⟨f1, f2, f3⟩ := cut_says h1 hkm
    obtain ⟨g1, g2, g3⟩ := long_says h1 (ta, tb)
    have HMod := Lib.hid (fun (X : World) => mod_any p xs.length X h64 hpos (by omega))
    rw [hk] at HMod
    obtain ⟨b, o, rfl, hb, hc⟩ := hX.row (by omega)
    have HXX := Lib.hid (fun (X : World) (h : Below (W.alloc (.cells #[.int .i64 ta, .int .i64 tb] 41)).heap.size (W.alloc (.cells #[.int .i64 ta, .int .i64 tb] 41)) X) => hX1.below h)
    have hfl : ((xs.drop 0).take k).length = k := by rw [List.length_take, List.length_drop]; omega
    have hgl : (xs ++ [(ta, tb)]).length = xs.length + 1 := by simp
    have HPart := Lib.hid (fun (X : World) (h : LinksAt X (some ⟨b, o, none⟩) xs) => (by
      have q := h.part (p := 0) (m := k) (by omega)
      rw [Nat.zero_mul, Nat.add_zero] at q
      exact q : LinksAt X (some ⟨b, o, none⟩) ((xs.drop 0).take k)))
    have hff : ∀ x ∈ (xs.drop 0).take k, I64 x.1 ∧ I64 x.2 := fun x hx => hX.fits x (List.mem_of_mem_drop (List.mem_of_mem_take hx))
    have hgf : ∀ x ∈ xs ++ [(ta, tb)], I64 x.1 ∧ I64 x.2 := fun x hx => by
      rcases List.mem_append.1 hx with h | h
      · exact hX.fits x h
      · rw [List.mem_singleton] at h
        subst h
        exact ht64
    have HFf := Lib.hid hff
    have HGf := Lib.hid hgf
    have HXf := Lib.hid hX.fits
    have HTf : Hid (∀ x ∈ [(ta, tb)], I64 x.1 ∧ I64 x.2) := Lib.hid (fun x hx => by
      rw [List.mem_singleton] at hx
      subst hx
      exact ht64)
    generalize hfs : (xs.drop 0).take k = fs at f1 f2 f3 hfl HPart hff HFf
    have h6 : I64 6 := by unfold I64; decide
    have HE1 := Lib.hid (fun (a' : Option Addr) (c' : Nat) (X : World) (h : LinksAt X a' fs) => endP_any a' c' fs 0 X h (by omega))
    have HD1 := Lib.hid (fun (a' : Option Addr) (c' : Nat) (X : World) (h : LinksAt X a' fs) => depthP_any a' c' fs X h (by omega))
    have HV1 := Lib.hid (fun (a' : Option Addr) (c' : Nat) (X : World) (h : LinksAt X a' fs) => validP_any a' c' fs 6 X h (by omega) h6)
    rw [hfl, f1] at HE1
    rw [hfl, f2] at HD1
    rw [hfl, f3] at HV1
    have HE2 := Lib.hid (fun (a' : Option Addr) (c' : Nat) (X : World) (h : LinksAt X a' (xs ++ [(ta, tb)])) => endP_any a' c' (xs ++ [(ta, tb)]) 0 X h (by omega))
    have HD3 := Lib.hid (fun (a' : Option Addr) (c' : Nat) (X : World) (h : LinksAt X a' (xs ++ [(ta, tb)])) => depthP_any a' c' (xs ++ [(ta, tb)]) X h (by omega))
    have HV2 := Lib.hid (fun (a' : Option Addr) (c' : Nat) (X : World) (h : LinksAt X a' (xs ++ [(ta, tb)])) => validP_any a' c' (xs ++ [(ta, tb)]) 6 X h (by omega) h6)
    rw [hgl, g1] at HE2
    rw [hgl, g2] at HD3
    rw [hgl, g3] at HV2
    have HFl : Hid (k = fs.length) := Lib.hid hfl.symm
    have HFle : Hid (fs.length ≤ 1000000) := Lib.hid (by omega)
    obtain ⟨m, hm⟩ : ∃ m, m = xs.length := ⟨_, rfl⟩
    have HM := Lib.hid hm
    have HXle : Hid (xs.length ≤ 1000000) := Lib.hid (by omega)
    rw [← hm] at HMod HD2 HE2 HD3 HV2 hl' hkm hcap hl ⊢
    clear hX hX1 h1 hdp hk f1 f2 f3 g1 g2 g3 hfl hgl hff hgf hfs h6 hm h64 wf1 wfa wfb ht64 hpos hc
    go_enter Try.func9, Try.ntmps9
    go_wp2_with (first | (go_at_call 10; refine (lightE_any _ m c _).mono ?_; rintro e w1 ⟨rfl, hw1⟩; rw [hl']; subst hw1) | (go_at_call 19; refine HD2.out.mono ?_; rintro e w3 ⟨rfl, hb3⟩; have hP := hb3) | (go_at_call 29; refine (HMod.out _).mono ?_; rintro e w4 ⟨rfl, rfl⟩) | (at_builtin; refine wpList_copyT rfl _ _ rfl _ _ fs k HFl.out rfl rfl (HPart.out _ (HXX.out _ hP)) HFle.out ?_; intro a5 c5 w5 hown5 hb5; have hF := OwnT.links hown5 HFf.out; replace hP := hP.trans (hb5.mono hP.size)))
    have hL5 := HXX.out _ hP
    have x0 : w5.cell? ⟨W.heap.size, 0, none⟩ = some (.int .i64 ta) := boxT hP 0
    have x1 : w5.cell? ⟨W.heap.size, 1, none⟩ = some (.int .i64 tb) := boxT hP 1
    have hsz5 : W.heap.size < w5.heap.size := by have h := hP.size; rw [World.size_alloc] at h; omega
    have hd5 : Below w5.heap.size w5 w5.drew := belDraws (Below.refl _ _) 1
    have HLd := Lib.hid (hL5.below hd5)
    have HLl := Lib.hid (fun ob => (hL5.below hd5).below ((Below.refl w5.drew.heap.size w5.drew).alloc (Nat.le_refl _) ob))
    have HLit : Hid (∀ X : World, LinksAt (X.alloc (.cells #[.int .i64 ta, .int .i64 tb] 41)) (some ⟨X.heap.size, 0, none⟩) [(ta, tb)]) := Lib.hid (fun X => OwnT.links (OwnT.lit X X.heap.size [(ta, tb)] #[.int .i64 ta, .int .i64 tb] 1 rfl rfl (Nat.le_refl _) (by unfold maxLen; simp)) HTf.out)
    have HD5 := Lib.hid hd5
    have HPp := Lib.hid hP
    have HFp := Lib.hid hF
    clear hL5 hd5 hP hF hown5 hb5 hb3
    go_region_law (first
      | ((refine step_copyT rfl _ (.tmp 25) rfl (some ⟨b, o, none⟩) c xs m HM.out rfl rfl (by first | exact HLd.out | exact HLl.out _) HXle.out ?_); intro a6 c6 w6 hown6 hb6; have hl6 := (HLit.out w5.drew).below hb6; have hb56 := (HD5.out.alloc (Nat.le_refl _) (.cells #[.int .i64 ta, .int .i64 tb] 41)).trans (hb6.mono (by simp)); have hm6 := OwnT.mono (B' := w5.heap.size) hown6 (by simp); have HL6 := Lib.hid hl6; have HB6 := Lib.hid hb56; have HO6 := Lib.hid hm6; clear hl6 hb56 hm6 hb6 hown6)
      | ((refine step_copyT rfl _ (.tmp 25) rfl (some ⟨b, o, none⟩) c xs m HM.out rfl rfl (by first | exact HLd.out | exact HLl.out _) HXle.out ?_); intro a6 c6 w6 hown6 hb6; have hb56 := HD5.out.trans (hb6.mono (Nat.le_refl _)); have hm6 := OwnT.mono (B' := w5.heap.size) hown6 (Nat.le_refl _); have y0 := (hb56.cell (p := ⟨W.heap.size, 0, none⟩) hsz5).trans x0; have y1 := (hb56.cell (p := ⟨W.heap.size, 1, none⟩) hsz5).trans x1; have HB6 := Lib.hid hb56; have HO6 := Lib.hid hm6; clear hb56 hm6 hb6 hown6)
      | ((refine step_appT rfl (.tmp 26) (.tmp 28) rfl w5.heap.size _ xs m HM.out HO6.out _ _ [(ta, tb)] 1 rfl rfl rfl HL6.out (by simp) (by simp; have := HXle.out; have := HM.out; omega) HB6.out.size ?_); intro a7 c7 w7 hown7 hg7; have hb57 := HB6.out.grown hg7 HB6.out.size (fun kk ee => own_lo HO6.out ee); have hP := HPp.out.trans (hb57.mono HPp.out.size); have hF := HFp.out.below hb57; have hG := OwnT.links hown7 HGf.out; clear hb57 hown7 hg7)
      | ((refine step_appT rfl (.tmp 26) (.tmp 28) rfl w5.heap.size _ xs m HM.out (OwnT.bel HO6.out ((Below.refl _ _).alloc (Nat.le_refl _) (.cells #[.int .i64 ta, .int .i64 tb] 41))) _ _ [(ta, tb)] 1 rfl rfl rfl (HLit.out _) (by simp) (by simp; have := HXle.out; have := HM.out; omega) (HB6.out.alloc HB6.out.size (.cells #[.int .i64 ta, .int .i64 tb] 41)).size ?_); intro a7 c7 w7 hown7 hg7; have hb57 := (HB6.out.alloc HB6.out.size (.cells #[.int .i64 ta, .int .i64 tb] 41)).grown hg7 (HB6.out.alloc HB6.out.size (.cells #[.int .i64 ta, .int .i64 tb] 41)).size (fun kk ee => own_lo HO6.out ee); have hP := HPp.out.trans (hb57.mono HPp.out.size); have hF := HFp.out.below hb57; have hG := OwnT.links hown7 HGf.out; clear hb57 hown7 hg7))
    all_goals
      go_wp2_with (first | (go_at_call 11; refine (HAw.out _ (belT hP)).mono ?_; rintro e wN ⟨rfl, hbN⟩; replace hP := hP.trans (hbN.mono hP.size); replace hF := hF.below hbN; replace hG := hG.below hbN) | (go_at_call 14; first | ((with_reducible refine (HE1.out _ _ _ hF).mono ?_); rintro e wN ⟨rfl, hbN⟩; replace hP := hP.trans (hbN.mono hP.size); replace hF := hF.below hbN; replace hG := hG.below hbN) | ((with_reducible refine (HE2.out _ _ _ hG).mono ?_); rintro e wN ⟨rfl, hbN⟩; replace hP := hP.trans (hbN.mono hP.size); replace hF := hF.below hbN; replace hG := hG.below hbN)) | (go_at_call 18; first | ((with_reducible refine (HD1.out _ _ _ hF).mono ?_); rintro e wN ⟨rfl, hbN⟩; replace hP := hP.trans (hbN.mono hP.size); replace hF := hF.below hbN; replace hG := hG.below hbN) | ((with_reducible refine (HD3.out _ _ _ hG).mono ?_); rintro e wN ⟨rfl, hbN⟩; replace hP := hP.trans (hbN.mono hP.size); replace hF := hF.below hbN; replace hG := hG.below hbN)) | (go_at_call 26; first | ((with_reducible refine (HV1.out _ _ _ hF).mono ?_); rintro e wN ⟨rfl, hbN⟩; replace hP := hP.trans (hbN.mono hP.size); replace hF := hF.below hbN; replace hG := hG.below hbN) | ((with_reducible refine (HV2.out _ _ _ hG).mono ?_); rintro e wN ⟨rfl, hbN⟩; replace hP := hP.trans (hbN.mono hP.size); replace hF := hF.below hbN; replace hG := hG.below hbN)))
      go_ret
      exact ⟨by first | rfl | (simp; done), belT hP⟩

set_option maxRecDepth 100000 in
theorem lifted (os : Os) (started : os.Started) (H : Type) (enc : TypeId × Value → H) :
    ReturnsInHanded {} Try.checked os 9 .any (Rows.termCutsAreIncompleteSpec.pre6 enc Try.prog Try.f9 Rows.termCutsAreIncompleteRow.domain false) (Rows.termCutsAreIncompleteSpec.post enc Try.prog Try.f9 false true false false) := by
  refine returnsInHanded_of_change (C := Try.checked) own started (by kernel_rfl) Try.func9
    (ChangeSpec.witness6 (enc := enc) (C := Try.checked) false ⟨#[], #[.slice none 0 0, .int .i64 0, .agg #[.int .i64 0, .int .i64 0]], []⟩ 8 (by kernel_rfl) (by kernel_rfl) (by kernel_rfl) (by kernel_rfl)) ?_
  intro W base args ds gs before hval0 hW hcnd _
  have hval : ∀ (j : Nat) t v, Try.f9.params[j]? = some t → args[j]? = some v → Value.okWide Try.prog W .any base t v := hval0
  have hW' := hW
  obtain ⟨p, q, hA0, hV, rfl, hfz, hnd⟩ := hW
  have hA : DataW.TrodAll enc Try.prog W 0 (fun _ => true) true Try.f9.params.toList args.toList ds p := hA0
  rw [Try.params9] at hA hval
  obtain ⟨v0, vs0, d0, ds0, p0, q0, hargs, rfl, rfl, h0, r0⟩ := trodAll_cons hA
  obtain ⟨v1, vs1, d1, ds1, p1, q1, rfl, rfl, rfl, h1, r1⟩ := trodAll_cons r0
  obtain ⟨v2, vs2, d2, ds2, p2, q2, rfl, rfl, rfl, h2, r2⟩ := trodAll_cons r1
  obtain ⟨rfl, rfl, rfl⟩ := trodAll_nil r2
  obtain rfl : args = #[v0, v1, v2] := by cases args; simp_all
  obtain ⟨rfl, rfl⟩ := trodVars_none hV
  have k0 := h0
  have lt0 : ∀ x ∈ p0, x.block < W.heap.size := by obtain ⟨m, hm⟩ := k0; exact DataW.trod_lt m _ _ _ hm
  obtain ⟨sa0, sl0, sc0, rfl⟩ := okWide_slice Try.underlying22 (hval 0 22 v0 rfl rfl)
  obtain ⟨m0, hm0⟩ := h0
  have hcp0 := links_cap Try.underlying22 hm0
  obtain ⟨xa0, xl0, xc0, zs0, hv0, hl0, hI0⟩ := links_of Try.underlying22 Try.underlying41 (by kernel_rfl) (by kernel_rfl) rfl rfl Try.underlying3 hm0
  injection hv0 with e0a e0b e0c
  subst e0a e0b e0c hl0
  have k1 := h1
  have lt1 : ∀ x ∈ p1, x.block < W.heap.size := by obtain ⟨m, hm⟩ := k1; exact DataW.trod_lt m _ _ _ hm
  obtain ⟨a1, rfl, rfl, rfl, w1⟩ := open_int Try.underlying3 (hval 1 3 v1 rfl rfl) h1
  have k2 := h2
  have lt2 : ∀ x ∈ p2, x.block < W.heap.size := by obtain ⟨m, hm⟩ := k2; exact DataW.trod_lt m _ _ _ hm
  obtain ⟨ta2, tb2, rfl, wfa2, wfb2⟩ := open_term (hval 2 41 v2 rfl rfl) h2
  clear hA0 hval0
  refine (walk W sa0 sc0 zs0 hI0 hcp0 a1 w1 ta2 tb2 wfa2 wfb2).mono fun e W' ⟨he, bel⟩ => ?_
  subst he
  exact ⟨_, rfl, _, _, _, [], _, [], hW', trodAll_mk1 (shut_bool Try.underlying4 _), (trodAll_cons_mk (Below.trod laidOut (by kernel_rfl) (of_decide_eq_true (by kernel_rfl)) k0 bel lt0) (trodAll_cons_mk (Below.trod laidOut (by kernel_rfl) (of_decide_eq_true (by kernel_rfl)) k1 bel lt1) (trodAll_cons_mk (Below.trod laidOut (by kernel_rfl) (of_decide_eq_true (by kernel_rfl)) k2 bel lt2) trodAll_mk0))), rfl, bel.frame _, fun h => by cases h⟩

theorem over : Rows.termCutsAreIncompleteRow.holds Try.pinned (OpenSpec.ofChange Rows.termCutsAreIncompleteSpec) :=
  OpenClaim.holds_of_wide 9 Try.f9 rfl rfl rfl rfl rfl rfl rfl ⟨rfl, rfl, rfl, rfl, rfl⟩ rfl rfl rfl rfl rfl (by kernel_rfl) Try.func9 (by kernel_rfl)
    (of_decide_eq_true (by kernel_rfl)) (by unfold Func.isWrapper; first | (rw [if_pos (by decide +kernel)]; kernel_rfl) | (rw [if_neg (by decide +kernel)]; exact ⟨rfl, rfl⟩))
    (fun os started H enc _ => lifted os started H enc)

theorem proved : Rows.TermCutsAreIncompleteSaid := over
end Go.Proofs.Ytbcndmlhbdanaaa.lawTermCutsAreIncomplete
