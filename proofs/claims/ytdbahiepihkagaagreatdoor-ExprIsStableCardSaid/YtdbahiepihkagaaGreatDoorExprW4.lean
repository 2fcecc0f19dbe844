/- The walk of ExprIsStable. -/
import Derived.Test.YtdbahiepihkagaaGreatDoorExprFull3
import Derived.Test.YtdbahiepihkagaaGreatDoorExprW5
namespace Go.Proofs.YtdbahiepihkagaaGreatDoor
set_option maxRecDepth 100000
open Go.RowKit

set_option maxHeartbeats 4000000 in
theorem fullCond_any (S : Src) (hS : S.Ok) (hcap : S.xs.length ≤ S.c) (p : Nat) (t : Int × Int) (c a b : Ex) (hs : Sits S.xs p (.cond t c a b)) (hw : (Ex.cond t c a b).wf) (T U V : Bytes) (hT : S.Full (p + 1) T) (hU : S.Full (p + 1 + c.flat.length) U) (hV : S.Full (p + 1 + c.flat.length + a.flat.length) V) (hl : T.length ≤ 30000) (hl2 : U.length ≤ 30000) (hl3 : V.length ≤ 30000) : S.Full p (prn T ++ 32 :: 63 :: 32 :: (prn U ++ 32 :: 58 :: 32 :: prn V)) := by
  intro W hW
  have hc0 := (hS.cells hs hW).1
  have hlt := hs.lt
  have hfew := hS.few
  have hle := hs.le
  have q0 : (0 : Int) ≤ (p : Int) := by omega
  have q1 : (p : Int) < (S.xs.length : Int) := by omega
  have HQ := Lib.hid (full_pre hS hcap hs hw hW)
  obtain ⟨q, hq⟩ : ∃ q, q = p + (Ex.cond t c a b).flat.length := ⟨_, rfl⟩
  rw [← hq] at HQ
  have q2 : (p : Int) ≤ (q : Int) := by have := HQ.out.le; omega
  have q3 : (q : Int) ≤ (S.c : Int) := by have := HQ.out.cap; omega
  have HE := Lib.hid HQ.out.end_
  have q4 : ¬ S.c = p := by omega
  unfold Src.Full at hT hU hV
  have ep : ((p + 1 : Nat) : Int) = (p : Int) + 1 := by omega
  rw [ep] at hT
  have HB := Lib.hid (fun W' (h : Below W.heap.size W W') => hT W' (hW.trans (h.mono hW.size)))
  have HC := Lib.hid (fun W' (h : Below W.heap.size W W') => hU W' (hW.trans (h.mono hW.size)))
  have HO := Lib.hid (fun W' (h : Below W.heap.size W W') => operandR_any (some ⟨S.b, S.o, none⟩) S.c S.xs p 1 W' (hS.links.below (hW.trans (h.mono hW.size))) (by omega))
  rw [opd_c2 hs hw] at HO
  have HD := Lib.hid (fun W' (h : Below W.heap.size W W') => hV W' (hW.trans (h.mono hW.size)))
  have HO2 := Lib.hid (fun W' (h : Below W.heap.size W W') => operandR_any (some ⟨S.b, S.o, none⟩) S.c S.xs p 2 W' (hS.links.below (hW.trans (h.mono hW.size))) (by omega))
  rw [opd_c3 hs hw] at HO2
  have har := fun W => arityR_any t.1 W
  rw [hw.1] at har
  obtain ⟨xf, hxf⟩ : ∃ xf, xf = (Ex.cond t c a b).flat := ⟨_, rfl⟩
  have HPt : Hid (∀ W', Below W.heap.size W W' → LinksAt W' (some ⟨S.b, S.o + p * 2, none⟩) xf) := Lib.hid (by rw [hxf]; exact HQ.out.part)
  have HLn : Hid (q - p = xf.length ∧ xf.length ≤ 1000) := Lib.hid (by rw [hxf]; exact ⟨HQ.out.len, HQ.out.few⟩)
  obtain ⟨op, arg⟩ := t
  change W.cell? _ = some (.int .i64 op) at hc0
  have hn := ar_cond hw.1
  dsimp only at hn har ⊢
  subst hn
  have lt := prn_len T
  have lu := prn_len U
  have add1 : ∀ W, (Op.stringOp .add ⟨#[40]⟩ (mkS T)).run Tryz.prog W = .ok (.string (mkS (40 :: T))) W := fun W => mkS_add [40] T (by simp) (by omega) W
  have add2 : ∀ W, (Op.stringOp .add (mkS (40 :: T)) ⟨#[41]⟩).run Tryz.prog W = .ok (.string (mkS (prn T))) W := fun W => mkS_add (40 :: T) [41] (by simp; omega) (by simp) W
  have add3 : ∀ W, (Op.stringOp .add ⟨#[40]⟩ (mkS U)).run Tryz.prog W = .ok (.string (mkS (40 :: U))) W := fun W => mkS_add [40] U (by simp) (by omega) W
  have add4 : ∀ W, (Op.stringOp .add (mkS (40 :: U)) ⟨#[41]⟩).run Tryz.prog W = .ok (.string (mkS (prn U))) W := fun W => mkS_add (40 :: U) [41] (by simp; omega) (by simp) W
  have add5 : ∀ W, (Op.stringOp .add (mkS (prn T)) ⟨#[32, 63, 32]⟩).run Tryz.prog W = .ok (.string (mkS (prn T ++ [32, 63, 32]))) W := fun W => mkS_add _ [32, 63, 32] (by omega) (by simp) W
  have add6 : ∀ W, (Op.stringOp .add (mkS (prn T ++ [32, 63, 32])) (mkS (prn U))).run Tryz.prog W = .ok (.string (mkS (prn T ++ [32, 63, 32] ++ prn U))) W := fun W => mkS_add _ _ (by simp; omega) (by omega) W
  have add7 : ∀ W, (Op.stringOp .add (mkS (prn T ++ [32, 63, 32] ++ prn U)) ⟨#[32, 58, 32, 40]⟩).run Tryz.prog W = .ok (.string (mkS (prn T ++ [32, 63, 32] ++ prn U ++ [32, 58, 32, 40]))) W := fun W => mkS_add _ [32, 58, 32, 40] (by simp; omega) (by simp) W
  have add8 : ∀ W, (Op.stringOp .add (mkS (prn T ++ [32, 63, 32] ++ prn U ++ [32, 58, 32, 40])) (mkS V)).run Tryz.prog W = .ok (.string (mkS (prn T ++ [32, 63, 32] ++ prn U ++ [32, 58, 32, 40] ++ V))) W := fun W => mkS_add _ _ (by simp; omega) (by omega) W
  have add9 : ∀ W, (Op.stringOp .add (mkS (prn T ++ [32, 63, 32] ++ prn U ++ [32, 58, 32, 40] ++ V)) ⟨#[41]⟩).run Tryz.prog W = .ok (.string (mkS (prn T ++ 32 :: 63 :: 32 :: (prn U ++ 32 :: 58 :: 32 :: prn V)))) W := fun W => by
    have := mkS_add (prn T ++ [32, 63, 32] ++ prn U ++ [32, 58, 32, 40] ++ V) [41] (by simp; omega) (by simp) W
    have e : prn T ++ [32, 63, 32] ++ prn U ++ [32, 58, 32, 40] ++ V ++ [41] = prn T ++ 32 :: 63 :: 32 :: (prn U ++ 32 :: 58 :: 32 :: prn V) := by simp [prn]
    rw [e] at this
    exact this
  clear hs hW hS hT hU hV hcap hw hq hxf HQ hle lt lu
  generalize S.xs.length = m at *
  generalize S.ns.length = k at *
  generalize mkS (prn T ++ 32 :: 63 :: 32 :: (prn U ++ 32 :: 58 :: 32 :: prn V)) = z9 at *
  generalize mkS (prn T ++ [32, 63, 32] ++ prn U ++ [32, 58, 32, 40] ++ V) = z10 at *
  generalize mkS (prn T ++ [32, 63, 32] ++ prn U ++ [32, 58, 32, 40]) = z8 at *
  generalize mkS (prn T ++ [32, 63, 32] ++ prn U) = z7 at *
  generalize mkS (prn T ++ [32, 63, 32]) = z6 at *
  generalize mkS (40 :: T) = z1 at *
  generalize mkS (prn T) = z2 at *
  generalize mkS (40 :: U) = z3 at *
  generalize mkS (prn U) = z4 at *
  generalize mkS V = z11 at *
  generalize p + 1 + c.flat.length + a.flat.length = r2 at *
  generalize p + 1 + c.flat.length = r at *
  go_enter Tryz.func23, Tryz.ntmps23
  go_wp2_with (first
    | (go_at_call 45; refine (HE.out _ (Below.refl _ _)).mono ?_; rintro e w1 ⟨rfl, hb1⟩)
    | (at_builtin; refine wpList_copyT rfl _ (.tmp 23) rfl (some ⟨S.b, S.o + p * 2, none⟩) (S.c - p) xf (q - p) HLn.out.1 rfl rfl (HPt.out _ hb1) (by have := HLn.out.2; omega) ?_; intro a2 c2 w2 O2 hb2; have hB2 := hb1.trans (hb2.mono hb1.size))
    | (go_at_call 46; refine (har _).mono ?_; rintro e w3 ⟨rfl, rfl⟩)
    | (go_at_call 47; first
        | ((with_reducible refine (HO2.out _ hB6).mono ?_); rintro e w7 ⟨rfl, hb7⟩; have hB7 := hB6.trans (hb7.mono hB6.size))
        | ((with_reducible refine (HO.out _ hB4).mono ?_); rintro e w5 ⟨rfl, hb5⟩; have hB5 := hB4.trans (hb5.mono hB4.size)))
    | (go_at_call 23; first
        | ((with_reducible refine (HD.out _ hB7).mono ?_); rintro e w8 ⟨rfl, hb8⟩; have hB8 := hB7.trans (hb8.mono hB7.size))
        | ((with_reducible refine (HC.out _ hB5).mono ?_); rintro e w6 ⟨rfl, hb6⟩; have hB6 := hB5.trans (hb6.mono hB5.size))
        | ((with_reducible refine (HB.out _ hB2).mono ?_); rintro e w4 ⟨rfl, hb4⟩; have hB4 := hB2.trans (hb4.mono hB2.size))))
  go_ret
  exact ⟨rfl, hB8⟩
theorem full_any (S : Src) (hS : S.Ok) (hcap : S.xs.length ≤ S.c) : ∀ (x : Ex) (p : Nat), Sits S.xs p x → x.wf → x.flat.all (fun t => argB t S.ns.length) = true → S.Full p (x.full S.ns)
  | .leaf t, p, hs, hw, ha => fullLeaf_any S hS hcap p t hs hw (all_cons ha).1
  | .un t a, p, hs, hw, ha => by
    have hr := ar_un hw.1
    obtain ⟨_, a2⟩ := all_cons ha
    have ih := full_any S hS hcap a (p + 1) hs.un hw.2 a2
    have hl := sized_short (full_sized hS.good a hw.2 a2) (n := 1000) (by have := hs.un.le; have := hS.few; omega)
    unfold Ex.full
    by_cases hn : t.1 = 18 ∨ t.1 = 19
    · exact fullNeg_any S hS hcap p t a hs hw hn _ ih (by omega)
    · exact fullAgg_any S hS hcap p t a hs hw (by omega) _ ih (by omega)
  | .bi t a b, p, hs, hw, ha => by
    obtain ⟨_, a2⟩ := all_cons ha
    obtain ⟨a3, a4⟩ := all_app a2
    have iha := full_any S hS hcap a _ hs.bi1 hw.2.1 a3
    have ihb := full_any S hS hcap b _ hs.bi2 hw.2.2 a4
    have hla := sized_short (full_sized hS.good a hw.2.1 a3) (n := 1000) (by have := hs.bi1.le; have := hS.few; omega)
    have hlb := sized_short (full_sized hS.good b hw.2.2 a4) (n := 1000) (by have := hs.bi2.le; have := hS.few; omega)
    unfold Ex.full
    exact fullBi_any S hS hcap p t a b hs hw _ _ iha ihb (by omega) (by omega)
  | .cond t c a b, p, hs, hw, ha => by
    obtain ⟨_, a2⟩ := all_cons ha
    obtain ⟨a3, a4⟩ := all_app a2
    obtain ⟨a5, a6⟩ := all_app a4
    have ihc := full_any S hS hcap c _ hs.c1 hw.2.1 a3
    have iha := full_any S hS hcap a _ hs.c2 hw.2.2.1 a5
    have ihb := full_any S hS hcap b _ hs.c3 hw.2.2.2 a6
    have hlc := sized_short (full_sized hS.good c hw.2.1 a3) (n := 1000) (by have := hs.c1.le; have := hS.few; omega)
    have hla := sized_short (full_sized hS.good a hw.2.2.1 a5) (n := 1000) (by have := hs.c2.le; have := hS.few; omega)
    have hlb := sized_short (full_sized hS.good b hw.2.2.2 a6) (n := 1000) (by have := hs.c3.le; have := hS.few; omega)
    unfold Ex.full
    exact fullCond_any S hS hcap p t c a b hs hw _ _ _ ihc iha ihb (by omega) (by omega) (by omega)
set_option maxHeartbeats 4000000 in
theorem exprBrackets_walk (W : World) (hL6 : Lay6 W) (a : Option Addr) (c : Nat) (xs : List (Int × Int)) (hX : LinksAt W a xs) (hcap : xs.length ≤ c) (na : Option Addr) (nc : Nat) (ns : List Bytes) (hN : NamesAt W na ns) (hc : ns.length ≤ nc) :
    Calls Tryz.prog 7 #[.slice a xs.length c, .slice na ns.length nc] W fun e W' => e = .returned (.bool true) ∧ Below W.heap.size W W' := by
  have HA := Lib.hid (fun w (h : Below W.heap.size W w) => awake6_any w (hL6.below h (Nat.le_refl _)))
  have HF := Lib.hid (fair6_any a c xs na nc ns W hX hN hc)
  cases hf : (decide (xs.length ≤ 250) && (lightN ns && fairE xs ns)) with
  | false =>
    rw [hf] at HF
    clear hX hN hc hf hcap
    generalize xs.length = k at *
    generalize ns.length = m at *
    go_enter Tryz.func7, Tryz.ntmps7
    go_wp2_with (first | (go_at_call 22; refine HF.out.mono ?_; rintro e w0 ⟨rfl, hb0⟩) | (go_at_call 15; refine (HA.out _ hb0).mono ?_; rintro e w1 ⟨rfl, hb⟩))
    go_ret
    exact ⟨rfl, hb0.trans (hb.mono hb0.size)⟩
  | true =>
    rw [hf] at HF
    by_cases h60 : 60 < xs.length
    · have d : (60 : Int) < (xs.length : Int) := by omega
      clear hX hN hc hf hcap h60
      generalize xs.length = k at *
      generalize ns.length = m at *
      go_enter Tryz.func7, Tryz.ntmps7
      go_wp2_with (first | (go_at_call 22; refine HF.out.mono ?_; rintro e w0 ⟨rfl, hb0⟩) | (go_at_call 15; refine (HA.out _ hb0).mono ?_; rintro e w1 ⟨rfl, hb⟩))
      go_ret
      exact ⟨rfl, hb0.trans (hb.mono hb0.size)⟩
    have d : decide ((60 : Int) < (xs.length : Int)) = false := by simp; omega
    rw [Bool.and_eq_true, Bool.and_eq_true, decide_eq_true_eq] at hf
    obtain ⟨h250, hl, hfe⟩ := hf
    have h10 := light_ten hl
    obtain ⟨x, hx⟩ := fair_x hfe
    obtain ⟨t1, t2, t3⟩ := hx.full
    have hshort := text_full ns x
    have h0 := (valid_few hx.valid).1
    obtain ⟨b, o, rfl, _⟩ := hX.row h0
    have hfull := full_any (Src.mk W b o c xs na nc ns) ⟨hX, hN, hx.good, by show xs.length ≤ 1000; omega⟩ hcap x 0 ⟨[], by show xs.drop 0 = x.flat ++ []; rw [hx.flat]; simp⟩ hx.wf hx.args
    unfold Src.Full at hfull
    dsimp only at hfull
    have HFu := Lib.hid hfull
    have HP := Lib.hid (fun (w : World) (h : Below W.heap.size W w) => formatP_ok (some ⟨b, o, none⟩) c xs na nc ns w (hX.below h) (hN.below h rfl) hc hfe x hx.flat hx.wf hcap (hL6.below h (Nat.le_refl _)))
    have HR := Lib.hid (fun (w : World) (h : Below W.heap.size W w) => readP_any (T := x.full ns) na nc w (hN.below h rfl) hc h10 t1 t3 (hL6.below h (Nat.le_refl _)))
    have HS := Lib.hid (fun (a a' : Option Addr) (c c' : Nat) (w : World) (h1 : LinksAt w a xs) (h2 : LinksAt w a' xs) => sameR_any a a' c c' xs xs w h1 h2 (by omega) (by omega))
    have HX := Lib.hid (fun (w : World) (h : Below W.heap.size W w) => hX.below h)
    have hs1 : (mkS (x.text ns)).size = (x.text ns).length := mkS_size _
    have hs2 : (mkS (x.full ns)).size = (x.full ns).length := mkS_size _
    have dl : ((mkS (x.text ns)).size : Int) ≤ ((mkS (x.full ns)).size : Int) := by omega
    clear hX hN hc hl h10 h250 hfe hx t1 t2 t3 hshort h0 hfull hs1 hs2 hcap h60
    generalize mkS (x.text ns) = z at *
    generalize mkS (x.full ns) = z2 at *
    generalize ns.length = m at *
    go_enter Tryz.func7, Tryz.ntmps7
    go_wp2_with (first
      | (go_at_call 22; refine HF.out.mono ?_; rintro e w0 ⟨rfl, hb0⟩)
      | (go_at_call 23; refine (HFu.out _ hb0).mono ?_; rintro e w2 ⟨rfl, hb2⟩; have hB2 := hb0.trans (hb2.mono hb0.size))
      | (go_at_call 16; refine (HR.out _ hB2).mono ?_; rintro e w3 ⟨⟨a3, c3, rfl, L3⟩, hb3⟩; have hB3 := hB2.trans (hb3.mono hB2.size))
      | (go_at_call 20; refine (HP.out _ hB3).mono ?_; rintro e w4 ⟨rfl, hb4⟩; have hB4 := hB3.trans (hb4.mono hB3.size))
      | (go_at_call 15; refine (HA.out _ hB4).mono ?_; rintro e w5 ⟨rfl, hb5⟩; have hB5 := hB4.trans (hb5.mono hB4.size))
      | (go_at_call 18; refine (HS.out _ _ _ _ _ (HX.out _ hB5) ((L3.below hb4).below hb5)).mono ?_; rintro e w6 ⟨rfl, hb6⟩; have hB6 := hB5.trans (hb6.mono hB5.size)))
    go_ret
    exact ⟨rfl, hB6⟩
end Go.Proofs.YtdbahiepihkagaaGreatDoor
namespace Go.Proofs.YtdbahiepihkagaaGreatDoor
set_option maxRecDepth 100000
open Go.RowKit

theorem parse_cases {T : Bytes} {ns : List Bytes} {x : List (Int × Int) × Nat × Nat} (h : parseF T ns = x) : (x.2.2 ≠ 0 ∧ x.1 = []) ∨ (x.2 = (0, 0) ∧ fairE x.1 ns = true) := by
  subst h
  unfold parseF
  by_cases hg : goodF ns = false
  · rw [if_pos hg]
    exact .inl ⟨by simp, rfl⟩
  rw [if_neg hg]
  cases hs : scanB T with
  | inl y =>
    obtain ⟨p, f⟩ := y
    have := scan_errs hs
    exact .inl ⟨by dsimp only; omega, rfl⟩
  | inr ts =>
    dsimp only
    unfold Env.answer
    by_cases h1 : (envF T ts ns).last.err ≠ 0
    · rw [if_pos h1]
      exact .inl ⟨h1, rfl⟩
    · rw [if_neg h1]
      by_cases h2 : validE (envF T ts ns).out.1 (envF T ts ns).ns.length = false
      · rw [if_pos h2]
        exact .inl ⟨by simp, rfl⟩
      · rw [if_neg h2]
        refine .inr ⟨rfl, ?_⟩
        unfold fairE
        rw [Bool.and_eq_true]
        exact ⟨by simpa using hg, by rw [Bool.not_eq_false] at h2; exact h2⟩
set_option maxHeartbeats 4000000 in
theorem exprIsStable_walk (W : World) (hL6 : Lay6 W) (s : ByteArray) (na : Option Addr) (nc : Nat) (ns : List Bytes) (hN : NamesAt W na ns) (hc : ns.length ≤ nc) :
    Calls Tryz.prog 8 #[.string s, .slice na ns.length nc] W fun e W' => e = .returned (.bool true) ∧ Below W.heap.size W W' := by
  have HA := Lib.hid (fun w (h : Below W.heap.size W w) => awake6_any w (hL6.below h (Nat.le_refl _)))
  have HL := Lib.hid (lightN_any na nc ns W hN)
  have hsz : s.data.toList.length = s.size := by simp
  by_cases hlong : 1000 < s.size
  · have d : (1000 : Int) < (s.size : Int) := by omega
    clear HL hN hc hsz
    generalize ns.length = m at *
    go_enter Tryz.func8, Tryz.ntmps8
    go_wp2_with (go_at_call 15; refine (HA.out _ (Below.refl _ _)).mono ?_; rintro e w1 ⟨rfl, hb⟩)
    go_ret
    exact ⟨rfl, hb⟩
  have d : decide ((1000 : Int) < (s.size : Int)) = false := by simp; omega
  cases hl : lightN ns with
  | false =>
    rw [hl] at HL
    clear hN hc hsz hl
    generalize ns.length = m at *
    go_enter Tryz.func8, Tryz.ntmps8
    go_wp2_with (first | (go_at_call 14; refine HL.out.mono ?_; rintro e w0 ⟨rfl, rfl⟩) | (go_at_call 15; refine (HA.out _ (Below.refl _ _)).mono ?_; rintro e w1 ⟨rfl, hb⟩))
    go_ret
    exact ⟨rfl, hb⟩
  | true =>
    rw [hl] at HL
    have h10 := light_ten hl
    have hfit : Fits6 s.data.toList ns := fits_short (by omega) ns
    have hp0 := parseP_any s.data.toList na nc ns W hN hc h10 hfit hL6.words
    have hr0 := fun (w : World) (h : Below W.heap.size W w) => parseR_any s.data.toList na nc ns w (hN.below h rfl) hc (by omega) hfit
    rw [mkS_data] at hp0 hr0
    have ht : ∀ t ∈ (parseF s.data.toList ns).1, I64 t.1 ∧ I64 t.2 := parse_terms
    obtain ⟨x, hx⟩ : ∃ x, parseF s.data.toList ns = x := ⟨_, rfl⟩
    have hcs := parse_cases hx
    rw [hx] at hp0 hr0 ht
    have HP := Lib.hid hp0
    have HR := Lib.hid hr0
    obtain ⟨xs, pl, f⟩ := x
    dsimp only at hcs ht
    clear hx hp0 hr0 hfit hsz
    rcases hcs with ⟨hf, hn⟩ | ⟨hf, hfe⟩
    · subst hn
      have hf0 : ((f : Int) == 0) = false := by simp; omega
      clear hf ht hN hc hl h10
      generalize ns.length = m at *
      go_enter Tryz.func8, Tryz.ntmps8
      go_wp2_with (first
        | (go_at_call 14; refine HL.out.mono ?_; rintro e w0 ⟨rfl, rfl⟩)
        | (go_at_call 16; refine HP.out.mono ?_; rintro e w1 ⟨⟨a1, c1, rfl, O1⟩, hb1⟩)
        | (go_at_call 17; refine (HR.out _ hb1).mono ?_; rintro e w2 ⟨⟨a2, c2, rfl, O2⟩, hb2⟩; have hB2 := hb1.trans (hb2.mono hb1.size))
        | (go_at_call 15; refine (HA.out _ hB2).mono ?_; rintro e w3 ⟨rfl, hb3⟩; have hB3 := hB2.trans (hb3.mono hB2.size)))
      go_ret
      exact ⟨rfl, hB3⟩
    · injection hf with hf1 hf2
      subst hf1 hf2
      obtain ⟨x, hx⟩ := fair_x hfe
      obtain ⟨t1, t2, t3⟩ := hx.text 0 (by omega)
      have h200 := (valid_few hx.valid).2
      have HT := Lib.hid ht
      have HFm := Lib.hid (fun (a : Option Addr) (c : Nat) (w : World) (h : Below W.heap.size W w) (hX : LinksAt w a xs) (hcap : xs.length ≤ c) => formatP_ok a c xs na nc ns w hX (hN.below h rfl) hc hfe x hx.flat hx.wf hcap (hL6.below h (Nat.le_refl _)))
      have HB := Lib.hid (fun (w : World) (h : Below W.heap.size W w) => readP_cap (T := x.text ns) na nc w (hN.below h rfl) hc h10 t1 t3 (hL6.below h (Nat.le_refl _)))
      have HS := Lib.hid (fun (a a' : Option Addr) (c c' : Nat) (w : World) (h1 : LinksAt w a xs) (h2 : LinksAt w a' xs) => sameR_any a a' c c' xs xs w h1 h2 (by omega) (by omega))
      have heq := mkS_same (x.text ns)
      clear hN hc hl h10 hfe hx t1 t2 t3 h200 ht HR
      generalize mkS (x.text ns) = z at *
      generalize ns.length = m at *
      go_enter Tryz.func8, Tryz.ntmps8
      go_wp2_with (first
        | (go_at_call 14; refine HL.out.mono ?_; rintro e w0 ⟨rfl, rfl⟩)
        | (go_at_call 16; first
            | ((with_reducible refine (HB.out _ hB2).mono ?_); rintro e w3 ⟨⟨a3, c3, rfl, L3, C3⟩, hb3⟩; have hB3 := hB2.trans (hb3.mono hB2.size))
            | (refine HP.out.mono ?_; rintro e w1 ⟨⟨a1, c1, rfl, O1⟩, hb1⟩; have L1 := O1.links HT.out; have C1 := own_cap O1))
        | (go_at_call 20; first
            | ((with_reducible refine (HFm.out _ _ _ hB3 L3 C3).mono ?_); rintro e w4 ⟨rfl, hb4⟩; have hB4 := hB3.trans (hb4.mono hB3.size))
            | ((with_reducible refine (HFm.out _ _ _ hb1 L1 C1).mono ?_); rintro e w2 ⟨rfl, hb2⟩; have hB2 := hb1.trans (hb2.mono hb1.size)))
        | (go_at_call 15; refine (HA.out _ hB4).mono ?_; rintro e w5 ⟨rfl, hb5⟩; have hB5 := hB4.trans (hb5.mono hB4.size))
        | (go_at_call 18; refine (HS.out _ _ _ _ _ ((((L1.below hb2).below hb3).below hb4).below hb5) ((L3.below hb4).below hb5)).mono ?_; rintro e w6 ⟨rfl, hb6⟩; have hB6 := hB5.trans (hb6.mono hB5.size)))
      go_ret
      exact ⟨rfl, hB6⟩
end Go.Proofs.YtdbahiepihkagaaGreatDoor
