/- unary, neighbour and primary of the program's reader. -/
import Derived.Test.YtokmehjofboflaaGreatDoorExprRg
namespace Go.Proofs.YtokmehjofboflaaGreatDoor
set_option maxRecDepth 100000
open Go.RowKit

theorem take6 (U : Sup) (hU : U.Ok) (s : St) (xs : List (Int × Int)) (w : World) (h : RAt U w s xs) (hi : s.i < U.ts.length) (hx : xs.length ≤ s.i) (op arg : Int) :
    Calls Tryz.prog 117 #[.pointer (some ⟨U.W0.heap.size, 0, none⟩), .int .i64 op, .int .i64 arg] w (Good6 U s.adv (xs ++ [(op, arg)])) := takeQ_any U s xs w h hi (h.few6 hU hx) op arg
theorem op6 {U : Sup} (hU : U.Ok) {s : St} {xs : List (Int × Int)} {W : World} (h : RAt U W s xs) (a n : Nat) (h43 : a + n ≤ 43) (z : Int) (hz : z + 1 = (a : Int) + (n : Int)) (l : Bytes) (y : Int) (hy : y = (a : Int)) :
    Calls Tryz.prog 115 #[.int .i64 y, .int .i64 z, .string (mkS l)] W fun e w' => e = .returned (.int .i64 (opF a n l : Nat)) ∧ w' = W := by
  subst hy
  exact operationP_any a n h43 z hz l W (hU.words.below h.bel (Nat.le_refl _))
theorem name6 (l : Bytes) (W : World) : Calls Tryz.prog 35 #[.string (mkS l)] W fun e w' => e = .returned (.bool (nameF l)) ∧ w' = W := by
  have := name_any (mkS l) W
  rwa [mkS_list] at this
theorem kind6 {U : Sup} (hU : U.Ok) {s : St} {xs : List (Int × Int)} {W : World} (h : RAt U W s xs) :
    Calls Tryz.prog 40 #[.pointer (some ⟨U.W0.heap.size, 0, none⟩)] W fun e w' => e = .returned (.agg #[.int .i64 (U.env.kind s : Int), .int .i64 ((U.now s.i).at_ : Int), .int .i64 ((U.now s.i).end_ : Int), .int .i64 (U.env.num s : Int)]) ∧ Below W.heap.size W w' := by
  have := nextP_any U hU s xs W h
  rw [now_kind h.good, now_num]
  exact this

set_option maxHeartbeats 2000000 in
theorem unaryQ_any (U : Sup) (hU : U.Ok) (n : Nat) (hu : CallsP U n .unary) (hp : CallsP U n .prim) : CallsP U (n + 1) .unary := by
  intro s w xs r h hx hr
  dsimp only
  unfold Env.run at hr
  have HW := Lib.hid (wordQ_any U hU s xs w h)
  have HP := Lib.hid h
  have hopf := opF_neg (U.env.word s)
  have HO := Lib.hid (fun W (h : RAt U W s xs) => op6 hU h 18 2 (by omega) 19 rfl (U.env.word s) 18 rfl)

  by_cases q1 : U.env.word s = [45]
  · rw [if_pos q1] at hr
    rw [if_pos q1] at hopf
    rw [hopf] at HO
    have hi := word_top q1
    cases h1 : U.env.run n .unary s.adv with
    | none => rw [h1] at hr; cases hr
    | some x =>
      rw [h1, Option.bind_some] at hr
      injection hr with hr
      subst hr
      have HT := Lib.hid (fun W (h : RAt U W s xs) => take6 U hU s xs W h hi hx 18 0)
      have hC := fun W (h : RAt U W s.adv (xs ++ [(18, 0)])) => hu _ W _ x h (by rw [List.length_append]; show _ ≤ s.i + 1; simp; omega) h1
      by_cases g1 : x.2.err = 0
      case neg =>
        have HS : Hid ((((18, 0) :: x.1, x.2) : Out).2 = x.2) := Lib.hid rfl
        have HC := Lib.hid (fun W h => outR_bad (hC W h) g1)
        have he := g1
        clear h hU hu hp hx hopf hi h1 hC g1 q1
        generalize mkS (U.env.word s) = Y at *
        go_enter Tryz.func106, Tryz.ntmps106
        go_wp2_with (first
          | (go_at_call 84; refine HW.out.mono ?_; rintro e w1 ⟨rfl, hb1⟩; have R1 := HP.out.far hb1)
          | (go_at_call 115; refine (HO.out _ R1).mono ?_; rintro e w2 ⟨rfl, rfl⟩)
          | (go_at_call 117; refine (HT.out _ R1).mono ?_; rintro e w3 ⟨rfl, R3⟩)
          | (go_at_call 106; refine (HC.out _ R3).mono ?_; rintro e wb ⟨rfl, hbad⟩))
        exact ⟨rfl, OutR.of_bad he (show Bad6 U _ _ _ from ⟨rfl, hbad⟩) (by first | exact HS.out | rfl)⟩
      have HE : Hid ((((18, 0) :: x.1, x.2) : Out).2.err = 0) := Lib.hid g1
      have HC := Lib.hid (fun W h => outR_good (hC W h) g1)
      clear h hU hu hp hx hopf hi h1 hC g1 q1
      generalize mkS (U.env.word s) = Y at *
      go_enter Tryz.func106, Tryz.ntmps106
      go_wp2_with (first
        | (go_at_call 84; refine HW.out.mono ?_; rintro e w1 ⟨rfl, hb1⟩; have R1 := HP.out.far hb1)
        | (go_at_call 115; refine (HO.out _ R1).mono ?_; rintro e w2 ⟨rfl, rfl⟩)
        | (go_at_call 117; refine (HT.out _ R1).mono ?_; rintro e w3 ⟨rfl, R3⟩)
        | (go_at_call 106; refine (HC.out _ R3).mono ?_; rintro e w4 ⟨rfl, R4⟩))
      go_end0
      exact OutR.of_good HE.out ⟨rfl, R4⟩ (by simp)
  rw [if_neg q1] at hr
  by_cases q2 : U.env.word s = [33]
  · rw [if_pos q2] at hr
    rw [if_neg q1, if_pos q2] at hopf
    rw [hopf] at HO
    have hi := word_top q2
    cases h1 : U.env.run n .unary s.adv with
    | none => rw [h1] at hr; cases hr
    | some x =>
      rw [h1, Option.bind_some] at hr
      injection hr with hr
      subst hr
      have HT := Lib.hid (fun W (h : RAt U W s xs) => take6 U hU s xs W h hi hx 19 0)
      have hC := fun W (h : RAt U W s.adv (xs ++ [(19, 0)])) => hu _ W _ x h (by rw [List.length_append]; show _ ≤ s.i + 1; simp; omega) h1
      by_cases g1 : x.2.err = 0
      case neg =>
        have HS : Hid ((((19, 0) :: x.1, x.2) : Out).2 = x.2) := Lib.hid rfl
        have HC := Lib.hid (fun W h => outR_bad (hC W h) g1)
        have he := g1
        clear h hU hu hp hx hopf hi h1 hC g1 q2
        generalize mkS (U.env.word s) = Y at *
        go_enter Tryz.func106, Tryz.ntmps106
        go_wp2_with (first
          | (go_at_call 84; refine HW.out.mono ?_; rintro e w1 ⟨rfl, hb1⟩; have R1 := HP.out.far hb1)
          | (go_at_call 115; refine (HO.out _ R1).mono ?_; rintro e w2 ⟨rfl, rfl⟩)
          | (go_at_call 117; refine (HT.out _ R1).mono ?_; rintro e w3 ⟨rfl, R3⟩)
          | (go_at_call 106; refine (HC.out _ R3).mono ?_; rintro e wb ⟨rfl, hbad⟩))
        exact ⟨rfl, OutR.of_bad he (show Bad6 U _ _ _ from ⟨rfl, hbad⟩) (by first | exact HS.out | rfl)⟩
      have HE : Hid ((((19, 0) :: x.1, x.2) : Out).2.err = 0) := Lib.hid g1
      have HC := Lib.hid (fun W h => outR_good (hC W h) g1)
      clear h hU hu hp hx hopf hi h1 hC g1 q2
      generalize mkS (U.env.word s) = Y at *
      go_enter Tryz.func106, Tryz.ntmps106
      go_wp2_with (first
        | (go_at_call 84; refine HW.out.mono ?_; rintro e w1 ⟨rfl, hb1⟩; have R1 := HP.out.far hb1)
        | (go_at_call 115; refine (HO.out _ R1).mono ?_; rintro e w2 ⟨rfl, rfl⟩)
        | (go_at_call 117; refine (HT.out _ R1).mono ?_; rintro e w3 ⟨rfl, R3⟩)
        | (go_at_call 106; refine (HC.out _ R3).mono ?_; rintro e w4 ⟨rfl, R4⟩))
      go_end0
      exact OutR.of_good HE.out ⟨rfl, R4⟩ (by simp)
  rw [if_neg q2] at hr
  rw [if_neg q1, if_neg q2] at hopf
  rw [hopf] at HO
  have hC := fun W (h : RAt U W s xs) => hp _ W _ r h hx hr
  by_cases g1 : r.2.err = 0
  case neg =>
    have HS : Hid (r.2 = r.2) := Lib.hid rfl
    have HC := Lib.hid (fun W h => outR_bad (hC W h) g1)
    have he := g1
    clear h hU hu hp hx hopf hr hC g1 q1 q2
    generalize mkS (U.env.word s) = Y at *
    go_enter Tryz.func106, Tryz.ntmps106
    go_wp2_with (first
      | (go_at_call 84; refine HW.out.mono ?_; rintro e w1 ⟨rfl, hb1⟩; have R1 := HP.out.far hb1)
      | (go_at_call 115; refine (HO.out _ R1).mono ?_; rintro e w2 ⟨rfl, rfl⟩)
      | (go_at_call 116; refine (HC.out _ R1).mono ?_; rintro e wb ⟨rfl, hbad⟩))
    exact ⟨rfl, OutR.of_bad he (show Bad6 U _ _ _ from ⟨rfl, hbad⟩) (by first | exact HS.out | rfl)⟩
  have HE : Hid (r.2.err = 0) := Lib.hid g1
  have HC := Lib.hid (fun W h => outR_good (hC W h) g1)
  clear h hU hu hp hx hopf hr hC g1 q1 q2
  generalize mkS (U.env.word s) = Y at *
  go_enter Tryz.func106, Tryz.ntmps106
  go_wp2_with (first
    | (go_at_call 84; refine HW.out.mono ?_; rintro e w1 ⟨rfl, hb1⟩; have R1 := HP.out.far hb1)
    | (go_at_call 115; refine (HO.out _ R1).mono ?_; rintro e w2 ⟨rfl, rfl⟩)
    | (go_at_call 116; refine (HC.out _ R1).mono ?_; rintro e w3 ⟨rfl, R3⟩))
  go_end0
  exact OutR.of_good HE.out ⟨rfl, R3⟩ rfl
set_option maxHeartbeats 2000000 in
theorem nearQ_any (U : Sup) (hU : U.Ok) (s : St) (w : World) (xs : List (Int × Int)) (h : RAt U w s xs) (hx : xs.length ≤ s.i) (hq : U.env.word s = [113]) :
    Calls Tryz.prog 130 #[.pointer (some ⟨U.W0.heap.size, 0, none⟩)] w (OutR U xs (U.env.near s.adv)) := by
  have hi := word_top hq
  have HX := Lib.hid (expectQ_yes U hU s xs w h [113] (by simp) hq)
  unfold Good6 at HX
  rw [show mkS [113] = ⟨#[113]⟩ from rfl] at HX
  have hup := h.up
  unfold Env.near
  by_cases q1 : U.env.word s.adv = [46]
  case neg =>
    rw [if_neg q1]
    have HA := Lib.hid (fun W (h : RAt U W s.adv xs) => acceptQ_no U hU s.adv xs W h [46] q1)
    have HL := Lib.hid (fun (W : World) => OwnT.lit W W.heap.size [(11, 0)] #[.int .i64 11, .int .i64 0] 1 rfl rfl (Nat.le_refl _) (by simp [maxLen]))
    have HO : Hid (∀ W, RAt U W s.adv xs → ∃ a c, W.cell? ⟨U.W0.heap.size, 3, none⟩ = some (.slice a xs.length c) ∧ W.frozen? ⟨U.W0.heap.size, 3, none⟩ = false ∧ U.W0.heap.size ≠ W.heap.size ∧ U.W.heap.size ≤ (W.alloc (.cells #[.int .i64 11, .int .i64 0] 38)).heap.size ∧ OwnT U.W.heap.size (W.alloc (.cells #[.int .i64 11, .int .i64 0] 38)) (.slice a xs.length c) xs ∧
        ∀ w2 v2, (W.alloc (.cells #[.int .i64 11, .int .i64 0] 38)).grownBy w2 (Value.slice a xs.length c).ownBlock → OwnT U.W.heap.size w2 v2 (xs ++ [(11, 0)]) → w2.cell? ⟨U.W0.heap.size, 3, none⟩ = some (.slice a xs.length c) ∧ w2.frozen? ⟨U.W0.heap.size, 3, none⟩ = false ∧ RAt U (w2.setCell ⟨U.W0.heap.size, 3, none⟩ v2) s.adv (xs ++ [(11, 0)])) := Lib.hid (fun W hW => by
      obtain ⟨v, d1, d2⟩ := hW.c3
      obtain ⟨a, c, rfl, _, _⟩ := d2.shape
      have hb := below_alloc6 W (.cells #[.int .i64 11, .int .i64 0] 38)
      have hl := hW.lt
      have h2 := hW.far hb
      refine ⟨a, c, d1, hW.f3, by omega, by have := hW.grow.size; simp; omega, d2.far hb, fun w2 v2 hg ho => ?_⟩
      have d1' := (hb.cell (p := ⟨_, 3, none⟩) hl).trans d1
      have hc := h2.cells2 (d2.far hb) hg 3
      exact ⟨hc.1.trans d1', hc.2.trans h2.f3, h2.put3 d1' (d2.far hb) hg ho⟩)
    rw [show mkS [46] = ⟨#[46]⟩ from rfl] at HA
    have hx6 := h.few6 hU hx
    have HE := Lib.hid (show s.adv.err = 0 from h.good)
    clear h hU hx hq q1 hi hup
    generalize hpb : U.W0.heap.size = pb at *
    obtain ⟨m, hm⟩ : ∃ m, m = xs.length := ⟨_, rfl⟩
    rw [← hm] at HO hx6
    have HM := Lib.hid hm
    clear hm
    go_enter Tryz.func130, Tryz.ntmps130
    go_wp2_with (first
      | (go_at_call 86; refine (HX.out).mono ?_; rintro e w1 ⟨rfl, R1⟩)
      | (go_at_call 109; refine (HA.out _ R1).mono ?_; rintro e w2 ⟨rfl, hb2⟩; have R2 := R1.far hb2; obtain ⟨va, vc, d1, f3, hne, hBB, hO, hF⟩ := HO.out _ R2)
      | (at_builtin; refine wpList_appO rfl (.tmp 12) (.tmp 14) rfl U.W.heap.size w2.heap.size _ _ xs [(11, 0)] hO (HL.out _) m 1 HM.out rfl rfl rfl (by omega) hBB ?_; intro a' c' w4 hown2 hg2; obtain ⟨k3, g3, R4⟩ := hF _ _ hg2 hown2; clear hown2 hg2))
    (try simp only [Exit.inBlock, Exit.then])
    refine bodyPost_ret (results_none rfl _ _ _) rfl ?_
    exact OutR.of_good HE.out ⟨rfl, R4⟩ rfl
  rw [if_pos q1]
  have hi2 := word_top q1
  have HA := Lib.hid (fun W (h : RAt U W s.adv xs) => acceptQ_yes U hU s.adv xs W h [46] (by simp) q1)
  rw [show mkS [46] = ⟨#[46]⟩ from rfl] at HA
  have HW := Lib.hid (fun W (h : RAt U W s.adv.adv xs) => wordQ_any U hU s.adv.adv xs W h)
  have HNm := Lib.hid (fun W => name6 (U.env.word s.adv.adv) W)
  have hx2 : xs.length ≤ s.adv.adv.i := by simp [St.adv]; omega
  have hx6 : xs.length ≤ 100000 := h.few6 hU hx
  have HG := Lib.hid (show s.adv.adv.err = 0 from h.good)
  cases hn : nameF (U.env.word s.adv.adv) with
  | true =>
    rw [hn] at HNm
    rw [if_neg (by rw [(name_word hn).field]; simp)]
    have hV := fun W (h : RAt U W s.adv.adv xs) => varQ_any U hU s.adv.adv xs W h hx6 hn 12
    by_cases g1 : (U.env.var 12 s.adv.adv).2.err = 0
    case neg =>
      have HS : Hid ((U.env.var 12 s.adv.adv).2 = (U.env.var 12 s.adv.adv).2) := Lib.hid rfl
      have HC := Lib.hid (fun W h => outR_bad (hV W h) g1)
      have he := g1
      clear h hU hx hq q1 hi hup hi2 hx2 hx6 hV g1 hn
      generalize U.env.var 12 s.adv.adv = r at *
      generalize mkS (U.env.word s.adv.adv) = Y at *
      go_enter Tryz.func130, Tryz.ntmps130
      go_wp2_with (first
        | (go_at_call 86; refine (HX.out).mono ?_; rintro e w1 ⟨rfl, R1⟩)
        | (go_at_call 109; refine (HA.out _ R1).mono ?_; rintro e w2 ⟨rfl, R2⟩)
        | (go_at_call 84; first | ((with_reducible refine (HW.out _ R2).mono ?_); rintro e w3 ⟨rfl, hb3⟩; have R3 := R2.far hb3) | ((with_reducible refine (HW.out _ R3).mono ?_); rintro e w4 ⟨rfl, hb4⟩; have R4 := R3.far hb4))
        | (go_at_call 35; refine (HNm.out _).mono ?_; rintro e wn ⟨rfl, rfl⟩)
        | (go_at_call 129; refine (HC.out _ R3).mono ?_; rintro e wb ⟨rfl, hbad⟩))
      exact ⟨rfl, OutR.of_bad he (show Bad6 U _ _ _ from ⟨rfl, hbad⟩) (by first | exact HS.out | rfl)⟩
    have HE : Hid ((U.env.var 12 s.adv.adv).2.err = 0) := Lib.hid g1
    have HC := Lib.hid (fun W h => outR_good (hV W h) g1)
    clear h hU hx hq q1 hi hup hi2 hx2 hx6 hV g1 hn
    generalize U.env.var 12 s.adv.adv = r at *
    generalize mkS (U.env.word s.adv.adv) = Y at *
    go_enter Tryz.func130, Tryz.ntmps130
    go_wp2_with (first
      | (go_at_call 86; refine (HX.out).mono ?_; rintro e w1 ⟨rfl, R1⟩)
      | (go_at_call 109; refine (HA.out _ R1).mono ?_; rintro e w2 ⟨rfl, R2⟩)
      | (go_at_call 84; first | ((with_reducible refine (HW.out _ R2).mono ?_); rintro e w3 ⟨rfl, hb3⟩; have R3 := R2.far hb3) | ((with_reducible refine (HW.out _ R3).mono ?_); rintro e w4 ⟨rfl, hb4⟩; have R4 := R3.far hb4))
      | (go_at_call 35; refine (HNm.out _).mono ?_; rintro e wn ⟨rfl, rfl⟩)
      | (go_at_call 129; refine (HC.out _ R3).mono ?_; rintro e w5 ⟨rfl, R5⟩))
    (try simp only [Exit.inBlock, Exit.then])
    refine bodyPost_ret (results_none rfl _ _ _) rfl ?_
    exact OutR.of_good HE.out ⟨rfl, R5⟩ rfl
  | false =>
    rw [hn] at HNm
    have hfl := opF_field (U.env.word s.adv.adv)
    have HO := Lib.hid (fun W (h : RAt U W s.adv.adv xs) => op6 hU h 13 5 (by omega) 17 rfl (113 :: 46 :: U.env.word s.adv.adv) 13 rfl)
    have hwl : (U.env.word s.adv.adv).length ≤ 100000 := by
      have : U.env.word s.adv.adv = (U.tx.drop (U.now s.adv.adv.i).at_).take ((U.now s.adv.adv.i).end_ - (U.now s.adv.adv.i).at_) := now_word HG.out
      rw [this]
      have := hU.short
      simp
      omega
    have hadd : ∀ W, (Op.stringOp .add ⟨#[113, 46]⟩ (mkS (U.env.word s.adv.adv))).run Tryz.prog W = .ok (.string (mkS (113 :: 46 :: U.env.word s.adv.adv))) W := fun W => mkS_add [113, 46] _ (by simp) hwl W
    by_cases q2 : fieldF (U.env.word s.adv.adv) ≠ 0
    · rw [if_pos q2]
      have hi3 : s.adv.adv.i < U.ts.length := word_in6 (x := U.env.word s.adv.adv) (word_field q2) rfl
      rw [← hfl] at q2
      rw [← hfl]
      obtain ⟨fd, hfd⟩ : ∃ fd, fd = opF 13 5 (113 :: 46 :: U.env.word s.adv.adv) := ⟨_, rfl⟩
      rw [← hfd] at HO q2 ⊢
      have HT := Lib.hid (fun W (h : RAt U W s.adv.adv xs) => take6 U hU s.adv.adv xs W h hi3 hx2 (fd : Int) 0)
      have HE : Hid (((([((fd : Int), 0)], s.adv.adv.adv) : Out)).2.err = 0) := Lib.hid h.good
      have d : ((fd : Int) == 0) = false := by simpa using q2
      clear h hU hx hq q1 hi hup hi2 hx2 hx6 hn hfl hwl hfd hi3 q2
      generalize mkS (113 :: 46 :: U.env.word s.adv.adv) = Z at *
      generalize mkS (U.env.word s.adv.adv) = Y at *
      go_enter Tryz.func130, Tryz.ntmps130
      go_wp2_with (first
        | (go_at_call 86; refine (HX.out).mono ?_; rintro e w1 ⟨rfl, R1⟩)
        | (go_at_call 109; refine (HA.out _ R1).mono ?_; rintro e w2 ⟨rfl, R2⟩)
        | (go_at_call 84; first | ((with_reducible refine (HW.out _ R2).mono ?_); rintro e w3 ⟨rfl, hb3⟩; have R3 := R2.far hb3) | ((with_reducible refine (HW.out _ R3).mono ?_); rintro e w4 ⟨rfl, hb4⟩; have R4 := R3.far hb4))
        | (go_at_call 35; refine (HNm.out _).mono ?_; rintro e wn ⟨rfl, rfl⟩)
        | (go_at_call 115; refine (HO.out _ R4).mono ?_; rintro e wo ⟨rfl, rfl⟩)
        | (go_at_call 117; refine (HT.out _ R4).mono ?_; rintro e w5 ⟨rfl, R5⟩))
      go_end0
      exact OutR.of_good HE.out ⟨rfl, R5⟩ rfl
    · have q3 : fieldF (U.env.word s.adv.adv) = 0 := by omega
      rw [if_neg q2]
      rw [q3] at hfl
      have h0 : opF 13 5 (113 :: 46 :: U.env.word s.adv.adv) = 0 := by omega
      rw [h0] at HO
      have hv : U.env.var 12 s.adv.adv = ([], U.env.fail s.adv.adv 4) := by
        unfold Env.var
        rw [if_pos hn]
      rw [hv]
      have HC := Lib.hid (fun W (h : RAt U W s.adv.adv xs) => fail_bad6 U hU s.adv.adv xs W h 4)
      have he := fail_err U.env s.adv.adv (e := 4) (by decide)
      have HS : Hid ((([], U.env.fail s.adv.adv 4) : Out).2 = U.env.fail s.adv.adv 4) := Lib.hid rfl
      clear h hU hx hq q1 hi hup hi2 hx2 hx6 hn hfl hwl q2 q3 h0 hv
      generalize U.env.fail s.adv.adv 4 = s4 at *
      generalize mkS (113 :: 46 :: U.env.word s.adv.adv) = Z at *
      generalize mkS (U.env.word s.adv.adv) = Y at *
      go_enter Tryz.func130, Tryz.ntmps130
      go_wp2_with (first
        | (go_at_call 86; refine (HX.out).mono ?_; rintro e w1 ⟨rfl, R1⟩)
        | (go_at_call 109; refine (HA.out _ R1).mono ?_; rintro e w2 ⟨rfl, R2⟩)
        | (go_at_call 84; first | ((with_reducible refine (HW.out _ R2).mono ?_); rintro e w3 ⟨rfl, hb3⟩; have R3 := R2.far hb3) | ((with_reducible refine (HW.out _ R3).mono ?_); rintro e w4 ⟨rfl, hb4⟩; have R4 := R3.far hb4))
        | (go_at_call 35; refine (HNm.out _).mono ?_; rintro e wn ⟨rfl, rfl⟩)
        | (go_at_call 115; refine (HO.out _ R4).mono ?_; rintro e wo ⟨rfl, rfl⟩)
        | (go_at_call 42; refine (HC.out _ R4).mono ?_; rintro e wb ⟨rfl, hbad⟩))
      exact ⟨rfl, OutR.of_bad he (show Bad6 U _ _ _ from ⟨rfl, hbad⟩) (by first | exact HS.out | rfl)⟩
end Go.Proofs.YtokmehjofboflaaGreatDoor
