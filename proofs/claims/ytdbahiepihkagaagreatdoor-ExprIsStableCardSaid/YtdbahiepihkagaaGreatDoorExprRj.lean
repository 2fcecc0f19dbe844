/- joined of the program's reader, and all of it. -/
import Derived.Test.YtdbahiepihkagaaGreatDoorExprRg
namespace Go.Proofs.YtdbahiepihkagaaGreatDoor
set_option maxRecDepth 100000
open Go.RowKit

theorem take6 (U : Sup) (hU : U.Ok) (s : St) (xs : List (Int × Int)) (w : World) (h : RAt U w s xs) (hi : s.i < U.ts.length) (hx : xs.length ≤ s.i) (op arg : Int) :
    Calls Tryz.prog 171 #[.pointer (some ⟨U.W0.heap.size, 0, none⟩), .int .i64 op, .int .i64 arg] w (Good6 U s.adv (xs ++ [(op, arg)])) := takeQ_any U hU s xs w h hi (h.few6 hU hx) op arg
theorem op6 {U : Sup} (hU : U.Ok) {s : St} {xs : List (Int × Int)} {W : World} (h : RAt U W s xs) (a n : Nat) (h43 : a + n ≤ 43) (z : Int) (hz : z + 1 = (a : Int) + (n : Int)) (l : Bytes) (y : Int) (hy : y = (a : Int)) :
    Calls Tryz.prog 169 #[.int .i64 y, .int .i64 z, .string (mkS l)] W fun e w' => e = .returned (.int .i64 (opF a n l : Nat)) ∧ w' = W := by
  subst hy
  exact operationP_any a n h43 z hz l W (hU.words.below h.bel (Nat.le_refl _))
theorem name6 (l : Bytes) (W : World) : Calls Tryz.prog 58 #[.string (mkS l)] W fun e w' => e = .returned (.bool (nameF l)) ∧ w' = W := by
  have := name_any (mkS l) W
  rwa [mkS_list] at this
theorem kind6 {U : Sup} (hU : U.Ok) {s : St} {xs : List (Int × Int)} {W : World} (h : RAt U W s xs) :
    Calls Tryz.prog 61 #[.pointer (some ⟨U.W0.heap.size, 0, none⟩)] W fun e w' => e = .returned (.agg #[.int .i64 (U.env.kind s : Int), .int .i64 ((U.now s.i).at_ : Int), .int .i64 ((U.now s.i).end_ : Int), .int .i64 (U.env.num s : Int)]) ∧ Below W.heap.size W w' := by
  have := nextP_any U hU s xs W h
  rw [now_kind h.good, now_num]
  exact this

set_option maxHeartbeats 2000000 in
theorem unaryQ_any (U : Sup) (hU : U.Ok) (n : Nat) (hu : CallsP U n .unary) (hp : CallsP U n .prim) : CallsP U (n + 1) .unary := by
  intro s w xs r h hx hr
  dsimp only
  unfold Env.run at hr
  have HW := Lib.hid (wordQ_any U hU s xs w h)
  have HP := Lib.hid h
  have hopf := opF_neg (U.env.word s)
  have HO := Lib.hid (fun W (h : RAt U W s xs) => op6 hU h 18 2 (by omega) 19 rfl (U.env.word s) 18 rfl)

  by_cases q1 : U.env.word s = [45]
  · rw [if_pos q1] at hr
    rw [if_pos q1] at hopf
    rw [hopf] at HO
    have hi := word_top q1
    cases h1 : U.env.run n .unary s.adv with
    | none => rw [h1] at hr; cases hr
    | some x =>
      rw [h1, Option.bind_some] at hr
      injection hr with hr
      subst hr
      have HT := Lib.hid (fun W (h : RAt U W s xs) => take6 U hU s xs W h hi hx 18 0)
      have hC := fun W (h : RAt U W s.adv (xs ++ [(18, 0)])) => hu _ W _ x h (by rw [List.length_append]; show _ ≤ s.i + 1; simp; omega) h1
      by_cases g1 : x.2.err = 0
      case neg =>
        have HS : Hid ((((18, 0) :: x.1, x.2) : Out).2 = x.2) := Lib.hid rfl
        have HC := Lib.hid (fun W h => outR_bad (hC W h) g1)
        have he := g1
        clear h hU hu hp hx hopf hi h1 hC g1 q1
        generalize mkS (U.env.word s) = Y at *
        go_enter Tryz.func129, Tryz.ntmps129
        go_wp2_with (first
          | (go_at_call 64; refine HW.out.mono ?_; rintro e w1 ⟨rfl, hb1⟩; have R1 := HP.out.far hb1)
          | (go_at_call 169; refine (HO.out _ R1).mono ?_; rintro e w2 ⟨rfl, rfl⟩)
          | (go_at_call 171; refine (HT.out _ R1).mono ?_; rintro e w3 ⟨rfl, R3⟩)
          | (go_at_call 129; refine (HC.out _ R3).mono ?_; rintro e wb ⟨rfl, hbad⟩))
        exact ⟨rfl, OutR.of_bad he (show Bad6 U _ _ _ from ⟨rfl, hbad⟩) (by first | exact HS.out | rfl)⟩
      have HE : Hid ((((18, 0) :: x.1, x.2) : Out).2.err = 0) := Lib.hid g1
      have HC := Lib.hid (fun W h => outR_good (hC W h) g1)
      clear h hU hu hp hx hopf hi h1 hC g1 q1
      generalize mkS (U.env.word s) = Y at *
      go_enter Tryz.func129, Tryz.ntmps129
      go_wp2_with (first
        | (go_at_call 64; refine HW.out.mono ?_; rintro e w1 ⟨rfl, hb1⟩; have R1 := HP.out.far hb1)
        | (go_at_call 169; refine (HO.out _ R1).mono ?_; rintro e w2 ⟨rfl, rfl⟩)
        | (go_at_call 171; refine (HT.out _ R1).mono ?_; rintro e w3 ⟨rfl, R3⟩)
        | (go_at_call 129; refine (HC.out _ R3).mono ?_; rintro e w4 ⟨rfl, R4⟩))
      go_end0
      exact OutR.of_good HE.out ⟨rfl, R4⟩ (by simp)
  rw [if_neg q1] at hr
  by_cases q2 : U.env.word s = [33]
  · rw [if_pos q2] at hr
    rw [if_neg q1, if_pos q2] at hopf
    rw [hopf] at HO
    have hi := word_top q2
    cases h1 : U.env.run n .unary s.adv with
    | none => rw [h1] at hr; cases hr
    | some x =>
      rw [h1, Option.bind_some] at hr
      injection hr with hr
      subst hr
      have HT := Lib.hid (fun W (h : RAt U W s xs) => take6 U hU s xs W h hi hx 19 0)
      have hC := fun W (h : RAt U W s.adv (xs ++ [(19, 0)])) => hu _ W _ x h (by rw [List.length_append]; show _ ≤ s.i + 1; simp; omega) h1
      by_cases g1 : x.2.err = 0
      case neg =>
        have HS : Hid ((((19, 0) :: x.1, x.2) : Out).2 = x.2) := Lib.hid rfl
        have HC := Lib.hid (fun W h => outR_bad (hC W h) g1)
        have he := g1
        clear h hU hu hp hx hopf hi h1 hC g1 q2
        generalize mkS (U.env.word s) = Y at *
        go_enter Tryz.func129, Tryz.ntmps129
        go_wp2_with (first
          | (go_at_call 64; refine HW.out.mono ?_; rintro e w1 ⟨rfl, hb1⟩; have R1 := HP.out.far hb1)
          | (go_at_call 169; refine (HO.out _ R1).mono ?_; rintro e w2 ⟨rfl, rfl⟩)
          | (go_at_call 171; refine (HT.out _ R1).mono ?_; rintro e w3 ⟨rfl, R3⟩)
          | (go_at_call 129; refine (HC.out _ R3).mono ?_; rintro e wb ⟨rfl, hbad⟩))
        exact ⟨rfl, OutR.of_bad he (show Bad6 U _ _ _ from ⟨rfl, hbad⟩) (by first | exact HS.out | rfl)⟩
      have HE : Hid ((((19, 0) :: x.1, x.2) : Out).2.err = 0) := Lib.hid g1
      have HC := Lib.hid (fun W h => outR_good (hC W h) g1)
      clear h hU hu hp hx hopf hi h1 hC g1 q2
      generalize mkS (U.env.word s) = Y at *
      go_enter Tryz.func129, Tryz.ntmps129
      go_wp2_with (first
        | (go_at_call 64; refine HW.out.mono ?_; rintro e w1 ⟨rfl, hb1⟩; have R1 := HP.out.far hb1)
        | (go_at_call 169; refine (HO.out _ R1).mono ?_; rintro e w2 ⟨rfl, rfl⟩)
        | (go_at_call 171; refine (HT.out _ R1).mono ?_; rintro e w3 ⟨rfl, R3⟩)
        | (go_at_call 129; refine (HC.out _ R3).mono ?_; rintro e w4 ⟨rfl, R4⟩))
      go_end0
      exact OutR.of_good HE.out ⟨rfl, R4⟩ (by simp)
  rw [if_neg q2] at hr
  rw [if_neg q1, if_neg q2] at hopf
  rw [hopf] at HO
  have hC := fun W (h : RAt U W s xs) => hp _ W _ r h hx hr
  by_cases g1 : r.2.err = 0
  case neg =>
    have HS : Hid (r.2 = r.2) := Lib.hid rfl
    have HC := Lib.hid (fun W h => outR_bad (hC W h) g1)
    have he := g1
    clear h hU hu hp hx hopf hr hC g1 q1 q2
    generalize mkS (U.env.word s) = Y at *
    go_enter Tryz.func129, Tryz.ntmps129
    go_wp2_with (first
      | (go_at_call 64; refine HW.out.mono ?_; rintro e w1 ⟨rfl, hb1⟩; have R1 := HP.out.far hb1)
      | (go_at_call 169; refine (HO.out _ R1).mono ?_; rintro e w2 ⟨rfl, rfl⟩)
      | (go_at_call 170; refine (HC.out _ R1).mono ?_; rintro e wb ⟨rfl, hbad⟩))
    exact ⟨rfl, OutR.of_bad he (show Bad6 U _ _ _ from ⟨rfl, hbad⟩) (by first | exact HS.out | rfl)⟩
  have HE : Hid (r.2.err = 0) := Lib.hid g1
  have HC := Lib.hid (fun W h => outR_good (hC W h) g1)
  clear h hU hu hp hx hopf hr hC g1 q1 q2
  generalize mkS (U.env.word s) = Y at *
  go_enter Tryz.func129, Tryz.ntmps129
  go_wp2_with (first
    | (go_at_call 64; refine HW.out.mono ?_; rintro e w1 ⟨rfl, hb1⟩; have R1 := HP.out.far hb1)
    | (go_at_call 169; refine (HO.out _ R1).mono ?_; rintro e w2 ⟨rfl, rfl⟩)
    | (go_at_call 170; refine (HC.out _ R1).mono ?_; rintro e w3 ⟨rfl, R3⟩))
  go_end0
  exact OutR.of_good HE.out ⟨rfl, R3⟩ rfl
set_option maxHeartbeats 2000000 in
theorem nearQ_any (U : Sup) (hU : U.Ok) (s : St) (w : World) (xs : List (Int × Int)) (h : RAt U w s xs) (hx : xs.length ≤ s.i) (hq : U.env.word s = [113]) :
    Calls Tryz.prog 189 #[.pointer (some ⟨U.W0.heap.size, 0, none⟩)] w (OutR U xs (U.env.near s.adv)) := by
  have hi := word_top hq
  have HX := Lib.hid (expectQ_yes U hU s xs w h [113] (by simp) hq)
  unfold Good6 at HX
  rw [show mkS [113] = ⟨#[113]⟩ from rfl] at HX
  have hup := h.up
  unfold Env.near
  by_cases q1 : U.env.word s.adv = [46]
  case neg =>
    rw [if_neg q1]
    have HA := Lib.hid (fun W (h : RAt U W s.adv xs) => acceptQ_no U hU s.adv xs W h [46] q1)
    have HL := Lib.hid (fun (W : World) => OwnT.lit W W.heap.size [(11, 0)] #[.int .i64 11, .int .i64 0] 1 rfl rfl (Nat.le_refl _) (by simp [maxLen]))
    have HO : Hid (∀ W, RAt U W s.adv xs → ∃ a c, W.cell? ⟨U.W0.heap.size, 3, none⟩ = some (.slice a xs.length c) ∧ W.frozen? ⟨U.W0.heap.size, 3, none⟩ = false ∧ U.W0.heap.size ≠ W.heap.size ∧ U.W.heap.size ≤ (W.alloc (.cells #[.int .i64 11, .int .i64 0] 55)).heap.size ∧ OwnT U.W.heap.size (W.alloc (.cells #[.int .i64 11, .int .i64 0] 55)) (.slice a xs.length c) xs ∧
        ∀ w2 v2, (W.alloc (.cells #[.int .i64 11, .int .i64 0] 55)).grownBy w2 (Value.slice a xs.length c).ownBlock → OwnT U.W.heap.size w2 v2 (xs ++ [(11, 0)]) → w2.cell? ⟨U.W0.heap.size, 3, none⟩ = some (.slice a xs.length c) ∧ w2.frozen? ⟨U.W0.heap.size, 3, none⟩ = false ∧ RAt U (w2.setCell ⟨U.W0.heap.size, 3, none⟩ v2) s.adv (xs ++ [(11, 0)])) := Lib.hid (fun W hW => by
      obtain ⟨v, d1, d2⟩ := hW.c3
      obtain ⟨a, c, rfl, _, _⟩ := d2.shape
      have hb := below_alloc6 W (.cells #[.int .i64 11, .int .i64 0] 55)
      have hl := hW.lt
      have h2 := hW.far hb
      refine ⟨a, c, d1, hW.f3, by omega, by have := hW.grow.size; simp; omega, d2.far hb, fun w2 v2 hg ho => ?_⟩
      have d1' := (hb.cell (p := ⟨_, 3, none⟩) hl).trans d1
      have hc := h2.cells2 (d2.far hb) hg 3
      exact ⟨hc.1.trans d1', hc.2.trans h2.f3, h2.put3 d1' (d2.far hb) hg ho⟩)
    rw [show mkS [46] = ⟨#[46]⟩ from rfl] at HA
    have hx6 := h.few6 hU hx
    have HE := Lib.hid (show s.adv.err = 0 from h.good)
    clear h hU hx hq q1 hi hup
    generalize hpb : U.W0.heap.size = pb at *
    obtain ⟨m, hm⟩ : ∃ m, m = xs.length := ⟨_, rfl⟩
    rw [← hm] at HO hx6
    have HM := Lib.hid hm
    clear hm
    go_enter Tryz.func189, Tryz.ntmps189
    go_wp2_with (first
      | (go_at_call 66; refine (HX.out).mono ?_; rintro e w1 ⟨rfl, R1⟩)
      | (go_at_call 133; refine (HA.out _ R1).mono ?_; rintro e w2 ⟨rfl, hb2⟩; have R2 := R1.far hb2; obtain ⟨va, vc, d1, f3, hne, hBB, hO, hF⟩ := HO.out _ R2)
      | (at_builtin; refine wpList_appO rfl (.tmp 16) (.tmp 18) rfl U.W.heap.size w2.heap.size _ _ xs [(11, 0)] hO (HL.out _) m 1 HM.out rfl rfl rfl (by omega) hBB ?_; intro a' c' w4 hown2 hg2; obtain ⟨k3, g3, R4⟩ := hF _ _ hg2 hown2; clear hown2 hg2))
    (try simp only [Exit.inBlock, Exit.then])
    refine bodyPost_ret (results_none rfl _ _ _) rfl ?_
    exact OutR.of_good HE.out ⟨rfl, R4⟩ rfl
  rw [if_pos q1]
  have hi2 := word_top q1
  have HA := Lib.hid (fun W (h : RAt U W s.adv xs) => acceptQ_yes U hU s.adv xs W h [46] (by simp) q1)
  rw [show mkS [46] = ⟨#[46]⟩ from rfl] at HA
  have HW := Lib.hid (fun W (h : RAt U W s.adv.adv xs) => wordQ_any U hU s.adv.adv xs W h)
  have HNm := Lib.hid (fun W => name6 (U.env.word s.adv.adv) W)
  have hx2 : xs.length ≤ s.adv.adv.i := by simp [St.adv]; omega
  have hx6 : xs.length ≤ 100000 := h.few6 hU hx
  have HG := Lib.hid (show s.adv.adv.err = 0 from h.good)
  cases hn : nameF (U.env.word s.adv.adv) with
  | true =>
    rw [hn] at HNm
    rw [if_neg (by rw [(name_word hn).field]; simp)]
    have hV := fun W (h : RAt U W s.adv.adv xs) => varQ_any U hU s.adv.adv xs W h hx6 hn 12
    by_cases g1 : (U.env.var 12 s.adv.adv).2.err = 0
    case neg =>
      have HS : Hid ((U.env.var 12 s.adv.adv).2 = (U.env.var 12 s.adv.adv).2) := Lib.hid rfl
      have HC := Lib.hid (fun W h => outR_bad (hV W h) g1)
      have he := g1
      clear h hU hx hq q1 hi hup hi2 hx2 hx6 hV g1 hn
      generalize U.env.var 12 s.adv.adv = r at *
      generalize mkS (U.env.word s.adv.adv) = Y at *
      go_enter Tryz.func189, Tryz.ntmps189
      go_wp2_with (first
        | (go_at_call 66; refine (HX.out).mono ?_; rintro e w1 ⟨rfl, R1⟩)
        | (go_at_call 133; refine (HA.out _ R1).mono ?_; rintro e w2 ⟨rfl, R2⟩)
        | (go_at_call 64; first | ((with_reducible refine (HW.out _ R2).mono ?_); rintro e w3 ⟨rfl, hb3⟩; have R3 := R2.far hb3) | ((with_reducible refine (HW.out _ R3).mono ?_); rintro e w4 ⟨rfl, hb4⟩; have R4 := R3.far hb4))
        | (go_at_call 58; refine (HNm.out _).mono ?_; rintro e wn ⟨rfl, rfl⟩)
        | (go_at_call 188; refine (HC.out _ R3).mono ?_; rintro e wb ⟨rfl, hbad⟩))
      exact ⟨rfl, OutR.of_bad he (show Bad6 U _ _ _ from ⟨rfl, hbad⟩) (by first | exact HS.out | rfl)⟩
    have HE : Hid ((U.env.var 12 s.adv.adv).2.err = 0) := Lib.hid g1
    have HC := Lib.hid (fun W h => outR_good (hV W h) g1)
    clear h hU hx hq q1 hi hup hi2 hx2 hx6 hV g1 hn
    generalize U.env.var 12 s.adv.adv = r at *
    generalize mkS (U.env.word s.adv.adv) = Y at *
    go_enter Tryz.func189, Tryz.ntmps189
    go_wp2_with (first
      | (go_at_call 66; refine (HX.out).mono ?_; rintro e w1 ⟨rfl, R1⟩)
      | (go_at_call 133; refine (HA.out _ R1).mono ?_; rintro e w2 ⟨rfl, R2⟩)
      | (go_at_call 64; first | ((with_reducible refine (HW.out _ R2).mono ?_); rintro e w3 ⟨rfl, hb3⟩; have R3 := R2.far hb3) | ((with_reducible refine (HW.out _ R3).mono ?_); rintro e w4 ⟨rfl, hb4⟩; have R4 := R3.far hb4))
      | (go_at_call 58; refine (HNm.out _).mono ?_; rintro e wn ⟨rfl, rfl⟩)
      | (go_at_call 188; refine (HC.out _ R3).mono ?_; rintro e w5 ⟨rfl, R5⟩))
    (try simp only [Exit.inBlock, Exit.then])
    refine bodyPost_ret (results_none rfl _ _ _) rfl ?_
    exact OutR.of_good HE.out ⟨rfl, R5⟩ rfl
  | false =>
    rw [hn] at HNm
    have hfl := opF_field (U.env.word s.adv.adv)
    have HO := Lib.hid (fun W (h : RAt U W s.adv.adv xs) => op6 hU h 13 5 (by omega) 17 rfl (113 :: 46 :: U.env.word s.adv.adv) 13 rfl)
    have hwl : (U.env.word s.adv.adv).length ≤ 100000 := by
      have : U.env.word s.adv.adv = (U.tx.drop (U.now s.adv.adv.i).at_).take ((U.now s.adv.adv.i).end_ - (U.now s.adv.adv.i).at_) := now_word HG.out
      rw [this]
      have := hU.short
      simp
      omega
    have hadd : ∀ W, (Op.stringOp .add ⟨#[113, 46]⟩ (mkS (U.env.word s.adv.adv))).run Tryz.prog W = .ok (.string (mkS (113 :: 46 :: U.env.word s.adv.adv))) W := fun W => mkS_add [113, 46] _ (by simp) hwl W
    by_cases q2 : fieldF (U.env.word s.adv.adv) ≠ 0
    · rw [if_pos q2]
      have hi3 : s.adv.adv.i < U.ts.length := word_in6 (x := U.env.word s.adv.adv) (word_field q2) rfl
      rw [← hfl] at q2
      rw [← hfl]
      obtain ⟨fd, hfd⟩ : ∃ fd, fd = opF 13 5 (113 :: 46 :: U.env.word s.adv.adv) := ⟨_, rfl⟩
      rw [← hfd] at HO q2 ⊢
      have HT := Lib.hid (fun W (h : RAt U W s.adv.adv xs) => take6 U hU s.adv.adv xs W h hi3 hx2 (fd : Int) 0)
      have HE : Hid (((([((fd : Int), 0)], s.adv.adv.adv) : Out)).2.err = 0) := Lib.hid h.good
      have d : ((fd : Int) == 0) = false := by simpa using q2
      clear h hU hx hq q1 hi hup hi2 hx2 hx6 hn hfl hwl hfd hi3 q2
      generalize mkS (113 :: 46 :: U.env.word s.adv.adv) = Z at *
      generalize mkS (U.env.word s.adv.adv) = Y at *
      go_enter Tryz.func189, Tryz.ntmps189
      go_wp2_with (first
        | (go_at_call 66; refine (HX.out).mono ?_; rintro e w1 ⟨rfl, R1⟩)
        | (go_at_call 133; refine (HA.out _ R1).mono ?_; rintro e w2 ⟨rfl, R2⟩)
        | (go_at_call 64; first | ((with_reducible refine (HW.out _ R2).mono ?_); rintro e w3 ⟨rfl, hb3⟩; have R3 := R2.far hb3) | ((with_reducible refine (HW.out _ R3).mono ?_); rintro e w4 ⟨rfl, hb4⟩; have R4 := R3.far hb4))
        | (go_at_call 58; refine (HNm.out _).mono ?_; rintro e wn ⟨rfl, rfl⟩)
        | (go_at_call 169; refine (HO.out _ R4).mono ?_; rintro e wo ⟨rfl, rfl⟩)
        | (go_at_call 171; refine (HT.out _ R4).mono ?_; rintro e w5 ⟨rfl, R5⟩))
      go_end0
      exact OutR.of_good HE.out ⟨rfl, R5⟩ rfl
    · have q3 : fieldF (U.env.word s.adv.adv) = 0 := by omega
      rw [if_neg q2]
      rw [q3] at hfl
      have h0 : opF 13 5 (113 :: 46 :: U.env.word s.adv.adv) = 0 := by omega
      rw [h0] at HO
      have hv : U.env.var 12 s.adv.adv = ([], U.env.fail s.adv.adv 4) := by
        unfold Env.var
        rw [if_pos hn]
      rw [hv]
      have HC := Lib.hid (fun W (h : RAt U W s.adv.adv xs) => fail_bad6 U hU s.adv.adv xs W h 4)
      have he := fail_err U.env s.adv.adv (e := 4) (by decide)
      have HS : Hid ((([], U.env.fail s.adv.adv 4) : Out).2 = U.env.fail s.adv.adv 4) := Lib.hid rfl
      clear h hU hx hq q1 hi hup hi2 hx2 hx6 hn hfl hwl q2 q3 h0 hv
      generalize U.env.fail s.adv.adv 4 = s4 at *
      generalize mkS (113 :: 46 :: U.env.word s.adv.adv) = Z at *
      generalize mkS (U.env.word s.adv.adv) = Y at *
      go_enter Tryz.func189, Tryz.ntmps189
      go_wp2_with (first
        | (go_at_call 66; refine (HX.out).mono ?_; rintro e w1 ⟨rfl, R1⟩)
        | (go_at_call 133; refine (HA.out _ R1).mono ?_; rintro e w2 ⟨rfl, R2⟩)
        | (go_at_call 64; first | ((with_reducible refine (HW.out _ R2).mono ?_); rintro e w3 ⟨rfl, hb3⟩; have R3 := R2.far hb3) | ((with_reducible refine (HW.out _ R3).mono ?_); rintro e w4 ⟨rfl, hb4⟩; have R4 := R3.far hb4))
        | (go_at_call 58; refine (HNm.out _).mono ?_; rintro e wn ⟨rfl, rfl⟩)
        | (go_at_call 169; refine (HO.out _ R4).mono ?_; rintro e wo ⟨rfl, rfl⟩)
        | (go_at_call 62; refine (HC.out _ R4).mono ?_; rintro e wb ⟨rfl, hbad⟩))
      exact ⟨rfl, OutR.of_bad he (show Bad6 U _ _ _ from ⟨rfl, hbad⟩) (by first | exact HS.out | rfl)⟩
end Go.Proofs.YtdbahiepihkagaaGreatDoor
namespace Go.Proofs.YtdbahiepihkagaaGreatDoor
set_option maxRecDepth 100000
open Go.RowKit

theorem mkS_is (l c : Bytes) : ((mkS l).toList == c) = (l == c) := by rw [ByteArray.toList_eq, mkS_list]
theorem brackQ_no (U : Sup) (hU : U.Ok) (s : St) (w : World) (xs : List (Int × Int)) (h : RAt U w s xs) (hq : U.env.word s ≠ [40]) :
    Calls Tryz.prog 190 #[.pointer (some ⟨U.W0.heap.size, 0, none⟩)] w (Bad6 U (U.env.fail s 4)) := by
  have HX := Lib.hid (expectQ_no U hU s xs w h [40] hq)
  rw [show mkS [40] = ⟨#[40]⟩ from rfl] at HX
  clear h hU hq
  generalize U.env.fail s 4 = s4 at *
  go_enter Tryz.func190, Tryz.ntmps190
  go_wp2_with (first
    | (go_at_call 66; refine (HX.out).mono ?_; rintro e wb ⟨rfl, hbad⟩))
  exact ⟨rfl, rfl, hbad⟩
set_option maxHeartbeats 4000000 in
theorem primQ_any (U : Sup) (hU : U.Ok) (n : Nat) (hC : CallsP U n .choice) : CallsP U (n + 1) .prim := by
  intro s w xs r h hx hr
  dsimp only
  unfold Env.run at hr
  have HW := Lib.hid (wordQ_any U hU s xs w h)
  have HP := Lib.hid h
  have HO1 := Lib.hid (fun W (h : RAt U W s xs) => op6 hU h 2 9 (by omega) 10 rfl (U.env.word s) 2 rfl)
  have HO2 := Lib.hid (fun W (h : RAt U W s xs) => op6 hU h 20 10 (by omega) 29 rfl (U.env.word s) 20 rfl)
  have HK := Lib.hid (fun W (h : RAt U W s xs) => kind6 hU h)
  have HNm := Lib.hid (fun W => name6 (U.env.word s) W)
  have hfd0 : ∀ (a b c d : Value) (W : World), (Instr.field 51 (.agg #[a, b, c, d]) 0).run Tryz.prog W = .ok a W := fun _ _ _ _ _ => by kernel_rfl
  have hfd3 : ∀ (a b c d : Value) (W : World), (Instr.field 51 (.agg #[a, b, c, d]) 3).run Tryz.prog W = .ok d W := fun _ _ _ _ _ => by kernel_rfl
  have hfl := opF_fact (U.env.word s)
  have hal := opF_agg (U.env.word s)
  have hg := h.good
  have hx6 : xs.length ≤ 100000 := h.few6 hU hx
  have h113 := mkS_is (U.env.word s) [113]
  by_cases q1 : U.env.kind s = 2
  · rw [if_pos q1] at hr
    injection hr with hr
    subst hr
    have hi : s.i < U.ts.length := by
      have := (kind_in (V := U.env) (s := s) (by omega)).2
      rwa [show U.env.ts.length = U.ts.length from env_len _ _ _] at this
    have HT := Lib.hid (fun W (h : RAt U W s xs) (z : Int) => take6 U hU s xs W h hi hx 1 z)
    have HE : Hid (((([(1, (U.env.num s : Int))], s.adv) : Out)).2.err = 0) := Lib.hid hg
    rw [q1] at HK
    clear h hU hx hC hi hfl hal q1 h113 HNm hg
    generalize opF 2 9 (U.env.word s) = f1 at *
    generalize opF 20 10 (U.env.word s) = f2 at *
    generalize mkS (U.env.word s) = Y at *
    generalize (U.now s.i).at_ = z1 at *
    generalize (U.now s.i).end_ = z2 at *
    generalize U.env.num s = z3 at *
    go_enter Tryz.func170, Tryz.ntmps170
    go_wp2_with (first
      | (go_at_call 64; refine HW.out.mono ?_; rintro e w1 ⟨rfl, hb1⟩; have R1 := HP.out.far hb1)
      | (go_at_call 169; first | ((with_reducible refine (HO1.out _ R1).mono ?_); rintro e wo ⟨rfl, rfl⟩) | ((with_reducible refine (HO2.out _ R1).mono ?_); rintro e wo ⟨rfl, rfl⟩))
      | (go_at_call 61; first | ((with_reducible refine (HK.out _ R1).mono ?_); rintro e w2 ⟨rfl, hb2⟩; have R2 := R1.far hb2) | ((with_reducible refine (HK.out _ R2).mono ?_); rintro e w3 ⟨rfl, hb3⟩; have R3 := R2.far hb3))
      | (go_at_call 171; refine (HT.out _ R3 _).mono ?_; rintro e w4 ⟨rfl, R4⟩))
    go_end0
    exact OutR.of_good HE.out ⟨rfl, R4⟩ rfl
  rw [if_neg q1] at hr
  have hk : (((U.env.kind s : Nat) : Int) == 2) = false := by simp; omega
  have hzk : ¬ ((U.env.kind s : Nat) : Int) = 2 := by omega
  generalize U.env.num s = z3 at *
  generalize (U.now s.i).at_ = z1 at *
  generalize (U.now s.i).end_ = z2 at *
  cases hn : nameF (U.env.word s) with
  | true =>
    have hN := name_word hn
    rw [if_neg (by rw [hN.fact]; simp), if_neg (by rw [hN.agg]; simp), if_neg hN.br, if_neg hN.q] at hr
    injection hr with hr
    subst hr
    rw [hn] at HNm
    have hV := fun W (h : RAt U W s xs) => varQ_any U hU s xs W h hx6 hn 5
    by_cases g1 : (U.env.var 5 s).2.err = 0
    case neg =>
      have HS : Hid ((U.env.var 5 s).2 = (U.env.var 5 s).2) := Lib.hid rfl
      have HC := Lib.hid (fun W h => outR_bad (hV W h) g1)
      have he := g1
      clear h hU hx hC hfl hal q1 h113 hg hn hN hV g1
      generalize U.env.kind s = kd at *
      generalize U.env.var 5 s = r at *
      generalize opF 2 9 (U.env.word s) = f1 at *
      generalize opF 20 10 (U.env.word s) = f2 at *
      generalize mkS (U.env.word s) = Y at *
      go_enter Tryz.func170, Tryz.ntmps170
      go_wp2_with (first
        | (go_at_call 64; refine HW.out.mono ?_; rintro e w1 ⟨rfl, hb1⟩; have R1 := HP.out.far hb1)
        | (go_at_call 169; first | ((with_reducible refine (HO1.out _ R1).mono ?_); rintro e wo ⟨rfl, rfl⟩) | ((with_reducible refine (HO2.out _ R1).mono ?_); rintro e wo ⟨rfl, rfl⟩))
        | (go_at_call 61; first | ((with_reducible refine (HK.out _ R1).mono ?_); rintro e w2 ⟨rfl, hb2⟩; have R2 := R1.far hb2) | ((with_reducible refine (HK.out _ R2).mono ?_); rintro e w3 ⟨rfl, hb3⟩; have R3 := R2.far hb3))
        | (go_at_call 58; refine (HNm.out _).mono ?_; rintro e wn ⟨rfl, rfl⟩)
        | (go_at_call 188; refine (HC.out _ R2).mono ?_; rintro e wb ⟨rfl, hbad⟩))
      exact ⟨rfl, OutR.of_bad he (show Bad6 U _ _ _ from ⟨rfl, hbad⟩) (by first | exact HS.out | rfl)⟩
    have HE : Hid ((U.env.var 5 s).2.err = 0) := Lib.hid g1
    have HC := Lib.hid (fun W h => outR_good (hV W h) g1)
    clear h hU hx hC hfl hal q1 h113 hg hn hN hV g1
    generalize U.env.kind s = kd at *
    generalize U.env.var 5 s = r at *
    generalize opF 2 9 (U.env.word s) = f1 at *
    generalize opF 20 10 (U.env.word s) = f2 at *
    generalize mkS (U.env.word s) = Y at *
    go_enter Tryz.func170, Tryz.ntmps170
    go_wp2_with (first
      | (go_at_call 64; refine HW.out.mono ?_; rintro e w1 ⟨rfl, hb1⟩; have R1 := HP.out.far hb1)
      | (go_at_call 169; first | ((with_reducible refine (HO1.out _ R1).mono ?_); rintro e wo ⟨rfl, rfl⟩) | ((with_reducible refine (HO2.out _ R1).mono ?_); rintro e wo ⟨rfl, rfl⟩))
      | (go_at_call 61; first | ((with_reducible refine (HK.out _ R1).mono ?_); rintro e w2 ⟨rfl, hb2⟩; have R2 := R1.far hb2) | ((with_reducible refine (HK.out _ R2).mono ?_); rintro e w3 ⟨rfl, hb3⟩; have R3 := R2.far hb3))
      | (go_at_call 58; refine (HNm.out _).mono ?_; rintro e wn ⟨rfl, rfl⟩)
      | (go_at_call 188; refine (HC.out _ R2).mono ?_; rintro e w3 ⟨rfl, R3⟩))
    go_end0
    exact OutR.of_good HE.out ⟨rfl, R3⟩ rfl
  | false =>
  rw [hn] at HNm
  by_cases q2 : factF (U.env.word s) ≠ 0
  · rw [if_pos q2] at hr
    injection hr with hr
    subst hr
    have hi : s.i < U.ts.length := word_in6 (x := U.env.word s) (word_fact q2) rfl
    rw [← hfl] at q2 ⊢
    have HT := Lib.hid (fun W (h : RAt U W s xs) => take6 U hU s xs W h hi hx ((opF 2 9 (U.env.word s) : Nat) : Int) 0)
    have HE : Hid (((([(((opF 2 9 (U.env.word s) : Nat) : Int), 0)], s.adv) : Out)).2.err = 0) := Lib.hid hg
    have d : (((opF 2 9 (U.env.word s) : Nat) : Int) == 0) = false := by simpa using q2
    have d2 : (((opF 2 9 (U.env.word s) : Nat) : Int) != 0) = true := by simp; omega
    clear h hU hx hC hfl hal q1 h113 hg hn hi
    generalize U.env.kind s = kd at *
    generalize opF 2 9 (U.env.word s) = f1 at *
    generalize opF 20 10 (U.env.word s) = f2 at *
    generalize mkS (U.env.word s) = Y at *
    go_enter Tryz.func170, Tryz.ntmps170
    go_wp2_with (first
      | (go_at_call 64; refine HW.out.mono ?_; rintro e w1 ⟨rfl, hb1⟩; have R1 := HP.out.far hb1)
      | (go_at_call 169; first | ((with_reducible refine (HO1.out _ R1).mono ?_); rintro e wo ⟨rfl, rfl⟩) | ((with_reducible refine (HO2.out _ R1).mono ?_); rintro e wo ⟨rfl, rfl⟩))
      | (go_at_call 61; first | ((with_reducible refine (HK.out _ R1).mono ?_); rintro e w2 ⟨rfl, hb2⟩; have R2 := R1.far hb2) | ((with_reducible refine (HK.out _ R2).mono ?_); rintro e w3 ⟨rfl, hb3⟩; have R3 := R2.far hb3))
      | (go_at_call 58; refine (HNm.out _).mono ?_; rintro e wn ⟨rfl, rfl⟩)
      | (go_at_call 171; refine (HT.out _ R2).mono ?_; rintro e w3 ⟨rfl, R3⟩))
    go_end0
    exact OutR.of_good HE.out ⟨rfl, R3⟩ rfl
  rw [if_neg q2] at hr
  have hf0 : factF (U.env.word s) = 0 := by omega
  have f0 : opF 2 9 (U.env.word s) = 0 := by omega
  clear hf0
  rw [f0] at HO1
  by_cases q5 : U.env.word s = [113]
  · have ha0 : aggW (U.env.word s) = 0 := by rw [q5]; decide
    rw [if_neg (by rw [ha0]; simp), if_neg (by rw [q5]; decide), if_pos q5] at hr
    injection hr with hr
    subst hr
    have hV := fun W (h : RAt U W s xs) => nearQ_any U hU s W xs h hx q5
    have hq : ((mkS (U.env.word s)).toList == [113]) = true := by rw [h113, q5]; rfl
    by_cases g1 : (U.env.near s.adv).2.err = 0
    case neg =>
      have HS : Hid ((U.env.near s.adv).2 = (U.env.near s.adv).2) := Lib.hid rfl
      have HC := Lib.hid (fun W h => outR_bad (hV W h) g1)
      have he := g1
      clear h hU hx hC hfl hal q1 q2 q5 h113 hg hn hV g1 ha0 f0
      generalize U.env.kind s = kd at *
      generalize U.env.near s.adv = r at *
      generalize opF 20 10 (U.env.word s) = f2 at *
      generalize mkS (U.env.word s) = Y at *
      go_enter Tryz.func170, Tryz.ntmps170
      go_wp2_with (first
        | (go_at_call 64; refine HW.out.mono ?_; rintro e w1 ⟨rfl, hb1⟩; have R1 := HP.out.far hb1)
        | (go_at_call 169; first | ((with_reducible refine (HO1.out _ R1).mono ?_); rintro e wo ⟨rfl, rfl⟩) | ((with_reducible refine (HO2.out _ R1).mono ?_); rintro e wo ⟨rfl, rfl⟩))
        | (go_at_call 61; first | ((with_reducible refine (HK.out _ R1).mono ?_); rintro e w2 ⟨rfl, hb2⟩; have R2 := R1.far hb2) | ((with_reducible refine (HK.out _ R2).mono ?_); rintro e w3 ⟨rfl, hb3⟩; have R3 := R2.far hb3))
        | (go_at_call 58; refine (HNm.out _).mono ?_; rintro e wn ⟨rfl, rfl⟩)
        | (go_at_call 189; refine (HC.out _ R2).mono ?_; rintro e wb ⟨rfl, hbad⟩))
      exact ⟨rfl, OutR.of_bad he (show Bad6 U _ _ _ from ⟨rfl, hbad⟩) (by first | exact HS.out | rfl)⟩
    have HE : Hid ((U.env.near s.adv).2.err = 0) := Lib.hid g1
    have HC := Lib.hid (fun W h => outR_good (hV W h) g1)
    clear h hU hx hC hfl hal q1 q2 q5 h113 hg hn hV g1 ha0 f0
    generalize U.env.kind s = kd at *
    generalize U.env.near s.adv = r at *
    generalize opF 20 10 (U.env.word s) = f2 at *
    generalize mkS (U.env.word s) = Y at *
    go_enter Tryz.func170, Tryz.ntmps170
    go_wp2_with (first
      | (go_at_call 64; refine HW.out.mono ?_; rintro e w1 ⟨rfl, hb1⟩; have R1 := HP.out.far hb1)
      | (go_at_call 169; first | ((with_reducible refine (HO1.out _ R1).mono ?_); rintro e wo ⟨rfl, rfl⟩) | ((with_reducible refine (HO2.out _ R1).mono ?_); rintro e wo ⟨rfl, rfl⟩))
      | (go_at_call 61; first | ((with_reducible refine (HK.out _ R1).mono ?_); rintro e w2 ⟨rfl, hb2⟩; have R2 := R1.far hb2) | ((with_reducible refine (HK.out _ R2).mono ?_); rintro e w3 ⟨rfl, hb3⟩; have R3 := R2.far hb3))
      | (go_at_call 58; refine (HNm.out _).mono ?_; rintro e wn ⟨rfl, rfl⟩)
      | (go_at_call 189; refine (HC.out _ R2).mono ?_; rintro e w3 ⟨rfl, R3⟩))
    go_end0
    exact OutR.of_good HE.out ⟨rfl, R3⟩ rfl
  have hq : ((mkS (U.env.word s)).toList == [113]) = false := by rw [h113]; simpa using q5
  by_cases q3 : aggW (U.env.word s) ≠ 0
  · rw [if_pos q3] at hr
    cases h1 : U.env.run n .choice (U.env.want [40] s.adv) with
    | none => rw [h1] at hr; cases hr
    | some x =>
      rw [h1, Option.bind_some] at hr
      injection hr with hr
      subst hr
      have hi : s.i < U.ts.length := word_in6 (x := U.env.word s) (word_agg q3) rfl
      rw [← hal] at q3 ⊢
      have HT := Lib.hid (fun W (h : RAt U W s xs) => take6 U hU s xs W h hi hx ((opF 20 10 (U.env.word s) : Nat) : Int) 0)
      have d : (((opF 20 10 (U.env.word s) : Nat) : Int) == 0) = false := by simpa using q3
      have d2 : (((opF 20 10 (U.env.word s) : Nat) : Int) != 0) = true := by simp; omega
      obtain ⟨f2, hf2⟩ : ∃ f2, f2 = opF 20 10 (U.env.word s) := ⟨_, rfl⟩
      rw [← hf2] at HT HO2 d d2 ⊢
      have hV := fun W (h : RAt U W s.adv (xs ++ [((f2 : Int), 0)])) => brackQ_any U hU n hC s.adv W _ x h (by rw [List.length_append]; show _ ≤ s.i + 1; simp; omega) h1
      by_cases g1 : (U.env.want [41] x.2).err = 0
      case neg =>
        have HS : Hid (((((f2 : Int), 0) :: x.1, U.env.want [41] x.2) : Out).2 = U.env.want [41] x.2) := Lib.hid rfl
        have HC := Lib.hid (fun W h => outR_bad (hV W h) g1)
        have he := g1
        clear h hU hx hC hfl hal q1 q2 q3 q5 h113 hg hn hV g1 f0 h1 hi hf2
        generalize U.env.kind s = kd at *
        generalize mkS (U.env.word s) = Y at *
        go_enter Tryz.func170, Tryz.ntmps170
        go_wp2_with (first
          | (go_at_call 64; refine HW.out.mono ?_; rintro e w1 ⟨rfl, hb1⟩; have R1 := HP.out.far hb1)
          | (go_at_call 169; first | ((with_reducible refine (HO1.out _ R1).mono ?_); rintro e wo ⟨rfl, rfl⟩) | ((with_reducible refine (HO2.out _ R1).mono ?_); rintro e wo ⟨rfl, rfl⟩))
          | (go_at_call 61; first | ((with_reducible refine (HK.out _ R1).mono ?_); rintro e w2 ⟨rfl, hb2⟩; have R2 := R1.far hb2) | ((with_reducible refine (HK.out _ R2).mono ?_); rintro e w3 ⟨rfl, hb3⟩; have R3 := R2.far hb3))
          | (go_at_call 58; refine (HNm.out _).mono ?_; rintro e wn ⟨rfl, rfl⟩)
          | (go_at_call 171; refine (HT.out _ R2).mono ?_; rintro e w3 ⟨rfl, R3⟩)
          | (go_at_call 190; refine (HC.out _ R3).mono ?_; rintro e wb ⟨rfl, hbad⟩))
        exact ⟨rfl, OutR.of_bad he (show Bad6 U _ _ _ from ⟨rfl, hbad⟩) (by first | exact HS.out | rfl)⟩
      have HE : Hid (((((f2 : Int), 0) :: x.1, U.env.want [41] x.2) : Out).2.err = 0) := Lib.hid g1
      have HC := Lib.hid (fun W h => outR_good (hV W h) g1)
      clear h hU hx hC hfl hal q1 q2 q3 q5 h113 hg hn hV g1 f0 h1 hi hf2
      generalize U.env.kind s = kd at *
      generalize mkS (U.env.word s) = Y at *
      go_enter Tryz.func170, Tryz.ntmps170
      go_wp2_with (first
        | (go_at_call 64; refine HW.out.mono ?_; rintro e w1 ⟨rfl, hb1⟩; have R1 := HP.out.far hb1)
        | (go_at_call 169; first | ((with_reducible refine (HO1.out _ R1).mono ?_); rintro e wo ⟨rfl, rfl⟩) | ((with_reducible refine (HO2.out _ R1).mono ?_); rintro e wo ⟨rfl, rfl⟩))
        | (go_at_call 61; first | ((with_reducible refine (HK.out _ R1).mono ?_); rintro e w2 ⟨rfl, hb2⟩; have R2 := R1.far hb2) | ((with_reducible refine (HK.out _ R2).mono ?_); rintro e w3 ⟨rfl, hb3⟩; have R3 := R2.far hb3))
        | (go_at_call 58; refine (HNm.out _).mono ?_; rintro e wn ⟨rfl, rfl⟩)
        | (go_at_call 171; refine (HT.out _ R2).mono ?_; rintro e w3 ⟨rfl, R3⟩)
        | (go_at_call 190; refine (HC.out _ R3).mono ?_; rintro e w4 ⟨rfl, R4⟩))
      go_end0
      exact OutR.of_good HE.out ⟨rfl, R4⟩ (by simp)
  rw [if_neg q3] at hr
  have ha0 : aggW (U.env.word s) = 0 := by omega
  have a0 : opF 20 10 (U.env.word s) = 0 := by omega
  clear ha0
  rw [a0] at HO2
  by_cases q4 : U.env.word s = [40]
  · rw [if_pos q4] at hr
    cases h1 : U.env.run n .choice s.adv with
    | none => rw [h1] at hr; cases hr
    | some x =>
      rw [h1, Option.bind_some] at hr
      injection hr with hr
      subst hr
      have hw : U.env.want [40] s = s.adv := by unfold Env.want; rw [if_pos q4]
      rw [← hw] at h1
      have hV := fun W (h : RAt U W s xs) => brackQ_any U hU n hC s W xs x h hx h1
      by_cases g1 : (U.env.want [41] x.2).err = 0
      case neg =>
        have HS : Hid (((x.1, U.env.want [41] x.2) : Out).2 = U.env.want [41] x.2) := Lib.hid rfl
        have HC := Lib.hid (fun W h => outR_bad (hV W h) g1)
        have he := g1
        clear h hU hx hC hfl hal q1 q2 q3 q4 q5 h113 hg hn hV g1 f0 a0 h1 hw
        generalize U.env.kind s = kd at *
        generalize mkS (U.env.word s) = Y at *
        go_enter Tryz.func170, Tryz.ntmps170
        go_wp2_with (first
          | (go_at_call 64; refine HW.out.mono ?_; rintro e w1 ⟨rfl, hb1⟩; have R1 := HP.out.far hb1)
          | (go_at_call 169; first | ((with_reducible refine (HO1.out _ R1).mono ?_); rintro e wo ⟨rfl, rfl⟩) | ((with_reducible refine (HO2.out _ R1).mono ?_); rintro e wo ⟨rfl, rfl⟩))
          | (go_at_call 61; first | ((with_reducible refine (HK.out _ R1).mono ?_); rintro e w2 ⟨rfl, hb2⟩; have R2 := R1.far hb2) | ((with_reducible refine (HK.out _ R2).mono ?_); rintro e w3 ⟨rfl, hb3⟩; have R3 := R2.far hb3))
          | (go_at_call 58; refine (HNm.out _).mono ?_; rintro e wn ⟨rfl, rfl⟩)
          | (go_at_call 190; refine (HC.out _ R2).mono ?_; rintro e wb ⟨rfl, hbad⟩))
        exact ⟨rfl, OutR.of_bad he (show Bad6 U _ _ _ from ⟨rfl, hbad⟩) (by first | exact HS.out | rfl)⟩
      have HE : Hid (((x.1, U.env.want [41] x.2) : Out).2.err = 0) := Lib.hid g1
      have HC := Lib.hid (fun W h => outR_good (hV W h) g1)
      clear h hU hx hC hfl hal q1 q2 q3 q4 q5 h113 hg hn hV g1 f0 a0 h1 hw
      generalize U.env.kind s = kd at *
      generalize mkS (U.env.word s) = Y at *
      go_enter Tryz.func170, Tryz.ntmps170
      go_wp2_with (first
        | (go_at_call 64; refine HW.out.mono ?_; rintro e w1 ⟨rfl, hb1⟩; have R1 := HP.out.far hb1)
        | (go_at_call 169; first | ((with_reducible refine (HO1.out _ R1).mono ?_); rintro e wo ⟨rfl, rfl⟩) | ((with_reducible refine (HO2.out _ R1).mono ?_); rintro e wo ⟨rfl, rfl⟩))
        | (go_at_call 61; first | ((with_reducible refine (HK.out _ R1).mono ?_); rintro e w2 ⟨rfl, hb2⟩; have R2 := R1.far hb2) | ((with_reducible refine (HK.out _ R2).mono ?_); rintro e w3 ⟨rfl, hb3⟩; have R3 := R2.far hb3))
        | (go_at_call 58; refine (HNm.out _).mono ?_; rintro e wn ⟨rfl, rfl⟩)
        | (go_at_call 190; refine (HC.out _ R2).mono ?_; rintro e w3 ⟨rfl, R3⟩))
      go_end0
      exact OutR.of_good HE.out ⟨rfl, R3⟩ rfl
  rw [if_neg q4, if_neg q5] at hr
  injection hr with hr
  subst hr
  have hv : U.env.var 5 s = ([], U.env.fail s 4) := by
    unfold Env.var
    rw [if_pos hn]
  rw [hv]
  have HC := Lib.hid (fun W (h : RAt U W s xs) => brackQ_no U hU s W xs h q4)
  have he := fail_err U.env s (e := 4) (by decide)
  have HS : Hid ((([], U.env.fail s 4) : Out).2 = U.env.fail s 4) := Lib.hid rfl
  clear h hU hx hC hfl hal q1 q2 q3 q4 q5 h113 hg hn f0 a0 hv
  generalize U.env.fail s 4 = s4 at *
  generalize U.env.kind s = kd at *
  generalize mkS (U.env.word s) = Y at *
  go_enter Tryz.func170, Tryz.ntmps170
  go_wp2_with (first
    | (go_at_call 64; refine HW.out.mono ?_; rintro e w1 ⟨rfl, hb1⟩; have R1 := HP.out.far hb1)
    | (go_at_call 169; first | ((with_reducible refine (HO1.out _ R1).mono ?_); rintro e wo ⟨rfl, rfl⟩) | ((with_reducible refine (HO2.out _ R1).mono ?_); rintro e wo ⟨rfl, rfl⟩))
    | (go_at_call 61; first | ((with_reducible refine (HK.out _ R1).mono ?_); rintro e w2 ⟨rfl, hb2⟩; have R2 := R1.far hb2) | ((with_reducible refine (HK.out _ R2).mono ?_); rintro e w3 ⟨rfl, hb3⟩; have R3 := R2.far hb3))
    | (go_at_call 58; refine (HNm.out _).mono ?_; rintro e wn ⟨rfl, rfl⟩)
    | (go_at_call 190; refine (HC.out _ R2).mono ?_; rintro e wb ⟨rfl, hbad⟩))
  exact ⟨rfl, OutR.of_bad he (show Bad6 U _ _ _ from ⟨rfl, hbad⟩) (by first | exact HS.out | rfl)⟩
end Go.Proofs.YtdbahiepihkagaaGreatDoor
namespace Go.Proofs.YtdbahiepihkagaaGreatDoor
set_option maxRecDepth 100000
open Go.RowKit

/-- the number of tokens that are left, as the world holds it -/
def leftP (U : Sup) (w : World) : Nat := match w.cell? ⟨U.W0.heap.size, 1, none⟩ with
  | some (.slice _ n _) => n
  | _ => 0
theorem left_eq {U : Sup} {w : World} {s : St} {xs : List (Int × Int)} (h : RAt U w s xs) : leftP U w = U.ts.length - s.i := by
  obtain ⟨a, c, e, _⟩ := h.c1
  unfold leftP
  rw [e]
set_option maxHeartbeats 4000000 in
theorem joinQ_any (U : Sup) (hU : U.Ok) (n lv : Nat) (hl2 : 2 ≤ lv) (h8 : lv ≤ 7) (hu : CallsP U n .unary) (hb : lv ≤ 6 → ∀ m, m ≤ n → CallsP U m (.bin (lv + 1))) : CallsP U (n + 1) (.bin lv) := by
  intro s w xs r h hx hr z hz
  unfold Env.run at hr
  obtain ⟨v, hv, hO⟩ := h.c3
  obtain ⟨va, vc, rfl, _, _⟩ := hO.shape
  by_cases h6 : 6 < lv
  · rw [if_pos h6] at hr
    obtain rfl : z = 6 := by omega
    have hC := hu s w xs r h hx hr
    dsimp only at hC
    by_cases g1 : r.2.err = 0
    case neg =>
      have HS : Hid (r.2 = r.2) := Lib.hid rfl
      have HC := Lib.hid (outR_bad hC g1)
      have he := g1
      clear h hU hx hr hu hb hC g1 hO hv
      go_enter Tryz.func63, Tryz.ntmps63
      go_wp2_with (first
        | (go_at_call 129; refine (HC.out).mono ?_; rintro e wb ⟨rfl, hbad⟩))
      exact ⟨rfl, OutR.of_bad he (show Bad6 U _ _ _ from ⟨rfl, hbad⟩) (by first | exact HS.out | rfl)⟩
    have HE : Hid (r.2.err = 0) := Lib.hid g1
    have HC := Lib.hid (outR_good hC g1)
    clear h hU hx hr hu hb hC g1 hO hv
    go_enter Tryz.func63, Tryz.ntmps63
    go_wp2_with (first
      | (go_at_call 129; refine (HC.out).mono ?_; rintro e w1 ⟨rfl, R1⟩))
    (try simp only [Exit.inBlock, Exit.then])
    refine bodyPost_ret (results_none rfl _ _ _) rfl ?_
    exact OutR.of_good HE.out ⟨rfl, R1⟩ rfl
  rw [if_neg h6] at hr
  obtain ⟨q, rfl⟩ : ∃ q : Nat, z = (q : Int) := ⟨lv - 1, by omega⟩
  have hq6 : q ≤ 5 := by omega
  have d6 : ((q : Int) == 6) = false := by simp; omega
  cases h1 : U.env.run n (.bin (lv + 1)) s with
  | none => rw [h1] at hr; cases hr
  | some l0 =>
  rw [h1, Option.bind_some] at hr
  have hJ := hb (by omega) n (Nat.le_refl _) s w xs l0 h hx h1 ((q : Int) + 1) (by omega)
  by_cases g1 : l0.2.err = 0
  case neg =>
    have HS : Hid (r.2 = l0.2) := Lib.hid (run_bad hr g1)
    have HC := Lib.hid (outR_bad hJ g1)
    have he := g1
    clear h hU hx hr hu hb hJ g1 hO h1 hz
    go_enter Tryz.func63, Tryz.ntmps63
    go_wp2_with (first
      | (go_at_call 63; refine (HC.out).mono ?_; rintro e wb ⟨rfl, hbad⟩))
    exact ⟨rfl, OutR.of_bad he (show Bad6 U _ _ _ from ⟨rfl, hbad⟩) (by first | exact HS.out | rfl)⟩
  have HC := Lib.hid (outR_good hJ g1)
  have HSg := Lib.hid (fun s' ys W (h : RAt U W s' ys) => signQ_any U hU s' ys W h lv (q : Int) hz)
  have HB := Lib.hid (fun m (hm : m ≤ n) (s' : St) (W : World) (ys : List (Int × Int)) (o' : Out) (h' : RAt U W s' ys) (hy : ys.length ≤ s'.i) (hr' : U.env.run m (.bin (lv + 1)) s' = some o') => hb (by omega) m hm s' W ys o' h' hy hr' ((q : Int) + 1) (by omega))
  have hl0 : l0.1 ≠ [] := run_some U.env n _ _ _ h1 g1 (fun _ _ e => by injection e)
  have hx0 : xs.length + l0.1.length ≤ l0.2.i := run_grow h1 (by simpa [Go6.base] using hx)
  have HR := Lib.hid hr
  have HL0 := Lib.hid hl0
  have HX0 := Lib.hid hx0
  have HU := Lib.hid hU
  have hsg := fun (l : Bytes) => signP_iff (lv := lv) (by omega) (by omega) l
  have HSI := Lib.hid hsg
  have HZ := Lib.hid hz
  have HL2 := Lib.hid (show 2 ≤ lv ∧ lv ≤ 6 by omega)
  clear h hU hx hr hu hb hJ g1 hO h1 hl0 hx0 hsg hz hl2 h8 h6
  obtain ⟨m, hm⟩ : ∃ m, m = xs.length := ⟨_, rfl⟩
  rw [← hm] at hv
  have HM := Lib.hid hm
  clear hm
  go_enter Tryz.func63, Tryz.ntmps63
  go_wp2_with (first | (go_at_call 63; refine (HC.out).mono ?_; rintro e w1 ⟨rfl, R1⟩) | (go_at_call 130; refine (HSg.out _ _ _ R1).mono ?_; rintro e w2 ⟨rfl, hb2⟩; have R2 := R1.far hb2))
  go_loopw [5] (fun t wr => ∃ (k : Nat) (l : List (Int × Int)) (s' : St), t = .int .i64 (signP lv (U.env.word s') : Nat) ∧ k ≤ n ∧ l ≠ [] ∧ xs.length + l.length ≤ s'.i ∧ RAt U wr s' (xs ++ l) ∧ U.env.run k (.more lv l) s' = some r) (fun t wr => leftP U wr)
  case atStart => exact ⟨n, l0.1, l0.2, rfl, Nat.le_refl _, HL0.out, HX0.out, R2, HR.out⟩
  case round =>
    obtain ⟨k, l, s', rfl, hk, hl, hxl, R, hrun⟩ := hrel
    cases k with
    | zero => unfold Env.run at hrun; cases hrun
    | succ k =>
    unfold Env.run at hrun
    obtain ⟨hs0, hs1⟩ := HSI.out (U.env.word s')
    have HR3 := Lib.hid R
    by_cases hq : signP lv (U.env.word s') = 0
    · rw [if_pos (hs0.1 hq)] at hrun
      injection hrun with hrun
      subst hrun
      rw [hq]
      clear hs0 hs1 hq hl hxl hk R
      go_wp2
      go_end0
      exact OutR.of_good HR3.out.good ⟨rfl, HR3.out⟩ rfl
    rw [if_neg (fun e => hq (hs0.2 e))] at hrun
    have hop := hs1 hq
    have hi : s'.i < U.ts.length := by
      refine word_in6 (x := U.env.word s') ?_ rfl
      intro e
      exact hq (hs0.2 (.inl (by rw [e]; decide)))
    rw [← hop] at hrun
    cases h2 : U.env.run k (.bin (lv + 1)) s'.adv with
    | none => rw [h2] at hrun; cases hrun
    | some r1 =>
    rw [h2, Option.bind_some] at hrun
    obtain ⟨op, hope⟩ : ∃ op, op = signP lv (U.env.word s') := ⟨_, rfl⟩
    rw [← hope] at hrun ⊢
    have d0 : ((op : Int) != 0) = true := by rw [hope]; simpa using hq
    have d1 : ((op : Int) == 0) = false := by rw [hope]; simpa using hq
    have HA := Lib.hid (ahead6 U HU.out s' xs l)
    have HA2 : Hid (∀ W, RAt U W s' (xs ++ l) → Calls Tryz.prog 65 #[.pointer (some ⟨U.W0.heap.size, 0, none⟩), .int .i64 (m : Int), .int .i64 (op : Int)] W (Good6 U s'.adv (xs ++ ((op : Int), 0) :: l))) := Lib.hid (fun W h => by
      rw [HM.out]
      exact HA.out W h hi (by rw [List.length_append]; exact hxl) hl op)
    have hJ := fun W (h : RAt U W s'.adv (xs ++ ((op : Int), 0) :: l)) => HB.out k (by omega) s'.adv W _ r1 h (by rw [List.length_append]; simp [St.adv]; omega) h2
    have hx2 : xs.length + (((op : Int), 0) :: l).length + r1.1.length ≤ r1.2.i := run_grow h2 (by simp [Go6.base, St.adv]; omega)
    have HX2 := Lib.hid hx2
    have HMs : Hid (∀ W ys, RAt U W r1.2 ys → leftP U W < U.ts.length - s'.i) := Lib.hid (fun W ys h => by
      have f := (run_fine U.env _ _ _ _ h2).later.le
      rw [left_eq h]
      have : s'.i + 1 ≤ r1.2.i := f
      omega)
    have HM0 := Lib.hid (left_eq R)
    by_cases g2 : r1.2.err = 0
    case neg =>
      have HS : Hid (r.2 = r1.2) := Lib.hid (by
        split at hrun
        · injection hrun with hrun
          rw [← hrun]
        · exact run_bad hrun g2)
      have HC1 := Lib.hid (fun W h => outR_bad (hJ W h) g2)
      have he := g2
      clear hJ hx2 g2 h2 hi hop hq hs0 hs1 hrun hope HA hl hxl hk R
      go_wp2_with (first | (go_at_call 65; refine (HA2.out _ HR3.out).mono ?_; rintro e w3 ⟨rfl, R3⟩) | (go_at_call 63; refine (HC1.out _ R3).mono ?_; rintro e wb ⟨rfl, hbad⟩))
      exact ⟨rfl, OutR.of_bad he (show Bad6 U _ _ _ from ⟨rfl, hbad⟩) (by first | exact HS.out | rfl)⟩
    have HC1 := Lib.hid (fun W h => outR_good (hJ W h) g2)
    by_cases h4 : lv = 4
    · rw [if_pos h4] at hrun
      injection hrun with hrun
      have HE : Hid (r.2.err = 0) := Lib.hid (by rw [← hrun]; exact g2)
      have HRun := Lib.hid hrun
      have d3 : ((q : Int) == 3) = true := by have := HZ.out; simp; omega
      clear hJ hx2 g2 h2 hi hop hq hs0 hs1 hrun hope HA hl hxl hk R
      go_wp2_with (first | (go_at_call 65; refine (HA2.out _ HR3.out).mono ?_; rintro e w3 ⟨rfl, R3⟩) | (go_at_call 63; refine (HC1.out _ R3).mono ?_; rintro e w4 ⟨rfl, R4⟩))
      (try simp only [Exit.inBlock, Exit.then])
      refine bodyPost_ret (results_none rfl _ _ _) rfl ?_
      have := HRun.out
      subst this
      exact OutR.of_good HE.out ⟨rfl, R4⟩ (by simp)
    · rw [if_neg h4] at hrun
      have HRun := Lib.hid hrun
      have d3 : ((q : Int) == 3) = false := by have := HZ.out; simp; omega
      clear hJ hx2 g2 h2 hi hop hq hs0 hs1 hrun hope HA hl hxl R
      go_wp2_with (first | (go_at_call 65; refine (HA2.out _ HR3.out).mono ?_; rintro e w3 ⟨rfl, R3⟩) | (go_at_call 63; refine (HC1.out _ R3).mono ?_; rintro e w4 ⟨rfl, R4⟩) | (go_at_call 130; refine (HSg.out _ _ _ R4).mono ?_; rintro e w5 ⟨rfl, hb5⟩; have R5 := R4.far hb5))
      go_roundw
      case rel =>
        refine ⟨k, ((op : Int), 0) :: (l ++ r1.1), r1.2, rfl, by omega, by simp, ?_, ?_, HRun.out⟩
        · have := HX2.out
          simp at this ⊢
          omega
        · have := R5
          simp at this ⊢
          exact this
      case measure => rw [HM0.out]; exact HMs.out _ _ R5
/-- what all of the reader's functions do -/
structure AllP (U : Sup) (n : Nat) : Prop where
  choice : CallsP U n .choice
  unary : CallsP U n .unary
  prim : CallsP U n .prim
  bin : ∀ lv, 2 ≤ lv → lv ≤ 7 → CallsP U n (.bin lv)
theorem callsP_zero (U : Sup) (g : Go6) : CallsP U 0 g := by
  intro s w xs r _ _ hr
  unfold Env.run at hr
  cases hr
theorem allP (U : Sup) (hU : U.Ok) (n : Nat) : AllP U n := by
  induction n using Nat.strongRecOn with
  | ind n ih =>
    cases n with
    | zero => exact ⟨callsP_zero _ _, callsP_zero _ _, callsP_zero _ _, fun _ _ _ => callsP_zero _ _⟩
    | succ n =>
      have hn := ih n (Nat.lt_succ_self n)
      exact ⟨choiceQ_any U hU n (hn.bin 2 (by omega) (by omega)) hn.choice, unaryQ_any U hU n hn.unary hn.prim, primQ_any U hU n hn.choice, fun lv h2 h => joinQ_any U hU n lv h2 h hn.unary (fun h6 m hm => (ih m (by omega)).bin (lv + 1) (by omega) (by omega))⟩
theorem choiceQ (U : Sup) (hU : U.Ok) (s : St) (w : World) (h : RAt U w s []) :
    Calls Tryz.prog 35 #[.pointer (some ⟨U.W0.heap.size, 0, none⟩)] w (OutR U [] (U.env.read .choice s)) := by
  obtain ⟨n, hn⟩ := read_some U.env .choice s
  exact (allP U hU n).choice s w [] _ h (Nat.zero_le _) hn
end Go.Proofs.YtdbahiepihkagaaGreatDoor
