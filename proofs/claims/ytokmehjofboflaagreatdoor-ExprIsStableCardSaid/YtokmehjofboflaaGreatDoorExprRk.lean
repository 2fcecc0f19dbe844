/- primary and joined of the program's reader, and all of it. -/
import Derived.Test.YtokmehjofboflaaGreatDoorExprRh
namespace Go.Proofs.YtokmehjofboflaaGreatDoor
set_option maxRecDepth 100000
open Go.RowKit

theorem mkS_is (l c : Bytes) : ((mkS l).toList == c) = (l == c) := by rw [ByteArray.toList_eq, mkS_list]
theorem brackQ_no (U : Sup) (hU : U.Ok) (s : St) (w : World) (xs : List (Int × Int)) (h : RAt U w s xs) (hq : U.env.word s ≠ [40]) :
    Calls Tryz.prog 131 #[.pointer (some ⟨U.W0.heap.size, 0, none⟩)] w (Bad6 U (U.env.fail s 4)) := by
  have HX := Lib.hid (expectQ_no U hU s xs w h [40] hq)
  rw [show mkS [40] = ⟨#[40]⟩ from rfl] at HX
  clear h hU hq
  generalize U.env.fail s 4 = s4 at *
  go_enter Tryz.func131, Tryz.ntmps131
  go_wp2_with (first
    | (go_at_call 86; refine (HX.out).mono ?_; rintro e wb ⟨rfl, hbad⟩))
  exact ⟨rfl, rfl, hbad⟩
set_option maxHeartbeats 4000000 in
theorem primQ_any (U : Sup) (hU : U.Ok) (n : Nat) (hC : CallsP U n .choice) : CallsP U (n + 1) .prim := by
  intro s w xs r h hx hr
  dsimp only
  unfold Env.run at hr
  have HW := Lib.hid (wordQ_any U hU s xs w h)
  have HP := Lib.hid h
  have HO1 := Lib.hid (fun W (h : RAt U W s xs) => op6 hU h 2 9 (by omega) 10 rfl (U.env.word s) 2 rfl)
  have HO2 := Lib.hid (fun W (h : RAt U W s xs) => op6 hU h 20 10 (by omega) 29 rfl (U.env.word s) 20 rfl)
  have HK := Lib.hid (fun W (h : RAt U W s xs) => kind6 hU h)
  have HNm := Lib.hid (fun W => name6 (U.env.word s) W)
  have hfd0 : ∀ (a b c d : Value) (W : World), (Instr.field 68 (.agg #[a, b, c, d]) 0).run Tryz.prog W = .ok a W := fun _ _ _ _ _ => by kernel_rfl
  have hfd3 : ∀ (a b c d : Value) (W : World), (Instr.field 68 (.agg #[a, b, c, d]) 3).run Tryz.prog W = .ok d W := fun _ _ _ _ _ => by kernel_rfl
  have hfl := opF_fact (U.env.word s)
  have hal := opF_agg (U.env.word s)
  have hg := h.good
  have hx6 : xs.length ≤ 100000 := h.few6 hU hx
  have h113 := mkS_is (U.env.word s) [113]
  by_cases q1 : U.env.kind s = 2
  · rw [if_pos q1] at hr
    injection hr with hr
    subst hr
    have hi : s.i < U.ts.length := by
      have := (kind_in (V := U.env) (s := s) (by omega)).2
      rwa [show U.env.ts.length = U.ts.length from env_len _ _ _] at this
    have HT := Lib.hid (fun W (h : RAt U W s xs) (z : Int) => take6 U hU s xs W h hi hx 1 z)
    have HE : Hid (((([(1, (U.env.num s : Int))], s.adv) : Out)).2.err = 0) := Lib.hid hg
    rw [q1] at HK
    clear h hU hx hC hi hfl hal q1 h113 HNm hg
    generalize opF 2 9 (U.env.word s) = f1 at *
    generalize opF 20 10 (U.env.word s) = f2 at *
    generalize mkS (U.env.word s) = Y at *
    generalize (U.now s.i).at_ = z1 at *
    generalize (U.now s.i).end_ = z2 at *
    generalize U.env.num s = z3 at *
    go_enter Tryz.func116, Tryz.ntmps116
    go_wp2_with (first
      | (go_at_call 84; refine HW.out.mono ?_; rintro e w1 ⟨rfl, hb1⟩; have R1 := HP.out.far hb1)
      | (go_at_call 115; first | ((with_reducible refine (HO1.out _ R1).mono ?_); rintro e wo ⟨rfl, rfl⟩) | ((with_reducible refine (HO2.out _ R1).mono ?_); rintro e wo ⟨rfl, rfl⟩))
      | (go_at_call 40; first | ((with_reducible refine (HK.out _ R1).mono ?_); rintro e w2 ⟨rfl, hb2⟩; have R2 := R1.far hb2) | ((with_reducible refine (HK.out _ R2).mono ?_); rintro e w3 ⟨rfl, hb3⟩; have R3 := R2.far hb3))
      | (go_at_call 117; refine (HT.out _ R3 _).mono ?_; rintro e w4 ⟨rfl, R4⟩))
    go_end0
    exact OutR.of_good HE.out ⟨rfl, R4⟩ rfl
  rw [if_neg q1] at hr
  have hk : (((U.env.kind s : Nat) : Int) == 2) = false := by simp; omega
  have hzk : ¬ ((U.env.kind s : Nat) : Int) = 2 := by omega
  generalize U.env.num s = z3 at *
  generalize (U.now s.i).at_ = z1 at *
  generalize (U.now s.i).end_ = z2 at *
  cases hn : nameF (U.env.word s) with
  | true =>
    have hN := name_word hn
    rw [if_neg (by rw [hN.fact]; simp), if_neg (by rw [hN.agg]; simp), if_neg hN.br, if_neg hN.q] at hr
    injection hr with hr
    subst hr
    rw [hn] at HNm
    have hV := fun W (h : RAt U W s xs) => varQ_any U hU s xs W h hx6 hn 5
    by_cases g1 : (U.env.var 5 s).2.err = 0
    case neg =>
      have HS : Hid ((U.env.var 5 s).2 = (U.env.var 5 s).2) := Lib.hid rfl
      have HC := Lib.hid (fun W h => outR_bad (hV W h) g1)
      have he := g1
      clear h hU hx hC hfl hal q1 h113 hg hn hN hV g1
      generalize U.env.kind s = kd at *
      generalize U.env.var 5 s = r at *
      generalize opF 2 9 (U.env.word s) = f1 at *
      generalize opF 20 10 (U.env.word s) = f2 at *
      generalize mkS (U.env.word s) = Y at *
      go_enter Tryz.func116, Tryz.ntmps116
      go_wp2_with (first
        | (go_at_call 84; refine HW.out.mono ?_; rintro e w1 ⟨rfl, hb1⟩; have R1 := HP.out.far hb1)
        | (go_at_call 115; first | ((with_reducible refine (HO1.out _ R1).mono ?_); rintro e wo ⟨rfl, rfl⟩) | ((with_reducible refine (HO2.out _ R1).mono ?_); rintro e wo ⟨rfl, rfl⟩))
        | (go_at_call 40; first | ((with_reducible refine (HK.out _ R1).mono ?_); rintro e w2 ⟨rfl, hb2⟩; have R2 := R1.far hb2) | ((with_reducible refine (HK.out _ R2).mono ?_); rintro e w3 ⟨rfl, hb3⟩; have R3 := R2.far hb3))
        | (go_at_call 35; refine (HNm.out _).mono ?_; rintro e wn ⟨rfl, rfl⟩)
        | (go_at_call 129; refine (HC.out _ R2).mono ?_; rintro e wb ⟨rfl, hbad⟩))
      exact ⟨rfl, OutR.of_bad he (show Bad6 U _ _ _ from ⟨rfl, hbad⟩) (by first | exact HS.out | rfl)⟩
    have HE : Hid ((U.env.var 5 s).2.err = 0) := Lib.hid g1
    have HC := Lib.hid (fun W h => outR_good (hV W h) g1)
    clear h hU hx hC hfl hal q1 h113 hg hn hN hV g1
    generalize U.env.kind s = kd at *
    generalize U.env.var 5 s = r at *
    generalize opF 2 9 (U.env.word s) = f1 at *
    generalize opF 20 10 (U.env.word s) = f2 at *
    generalize mkS (U.env.word s) = Y at *
    go_enter Tryz.func116, Tryz.ntmps116
    go_wp2_with (first
      | (go_at_call 84; refine HW.out.mono ?_; rintro e w1 ⟨rfl, hb1⟩; have R1 := HP.out.far hb1)
      | (go_at_call 115; first | ((with_reducible refine (HO1.out _ R1).mono ?_); rintro e wo ⟨rfl, rfl⟩) | ((with_reducible refine (HO2.out _ R1).mono ?_); rintro e wo ⟨rfl, rfl⟩))
      | (go_at_call 40; first | ((with_reducible refine (HK.out _ R1).mono ?_); rintro e w2 ⟨rfl, hb2⟩; have R2 := R1.far hb2) | ((with_reducible refine (HK.out _ R2).mono ?_); rintro e w3 ⟨rfl, hb3⟩; have R3 := R2.far hb3))
      | (go_at_call 35; refine (HNm.out _).mono ?_; rintro e wn ⟨rfl, rfl⟩)
      | (go_at_call 129; refine (HC.out _ R2).mono ?_; rintro e w3 ⟨rfl, R3⟩))
    go_end0
    exact OutR.of_good HE.out ⟨rfl, R3⟩ rfl
  | false =>
  rw [hn] at HNm
  by_cases q2 : factF (U.env.word s) ≠ 0
  · rw [if_pos q2] at hr
    injection hr with hr
    subst hr
    have hi : s.i < U.ts.length := word_in6 (x := U.env.word s) (word_fact q2) rfl
    rw [← hfl] at q2 ⊢
    have HT := Lib.hid (fun W (h : RAt U W s xs) => take6 U hU s xs W h hi hx ((opF 2 9 (U.env.word s) : Nat) : Int) 0)
    have HE : Hid (((([(((opF 2 9 (U.env.word s) : Nat) : Int), 0)], s.adv) : Out)).2.err = 0) := Lib.hid hg
    have d : (((opF 2 9 (U.env.word s) : Nat) : Int) == 0) = false := by simpa using q2
    have d2 : (((opF 2 9 (U.env.word s) : Nat) : Int) != 0) = true := by simp; omega
    clear h hU hx hC hfl hal q1 h113 hg hn hi
    generalize U.env.kind s = kd at *
    generalize opF 2 9 (U.env.word s) = f1 at *
    generalize opF 20 10 (U.env.word s) = f2 at *
    generalize mkS (U.env.word s) = Y at *
    go_enter Tryz.func116, Tryz.ntmps116
    go_wp2_with (first
      | (go_at_call 84; refine HW.out.mono ?_; rintro e w1 ⟨rfl, hb1⟩; have R1 := HP.out.far hb1)
      | (go_at_call 115; first | ((with_reducible refine (HO1.out _ R1).mono ?_); rintro e wo ⟨rfl, rfl⟩) | ((with_reducible refine (HO2.out _ R1).mono ?_); rintro e wo ⟨rfl, rfl⟩))
      | (go_at_call 40; first | ((with_reducible refine (HK.out _ R1).mono ?_); rintro e w2 ⟨rfl, hb2⟩; have R2 := R1.far hb2) | ((with_reducible refine (HK.out _ R2).mono ?_); rintro e w3 ⟨rfl, hb3⟩; have R3 := R2.far hb3))
      | (go_at_call 35; refine (HNm.out _).mono ?_; rintro e wn ⟨rfl, rfl⟩)
      | (go_at_call 117; refine (HT.out _ R2).mono ?_; rintro e w3 ⟨rfl, R3⟩))
    go_end0
    exact OutR.of_good HE.out ⟨rfl, R3⟩ rfl
  rw [if_neg q2] at hr
  have hf0 : factF (U.env.word s) = 0 := by omega
  have f0 : opF 2 9 (U.env.word s) = 0 := by omega
  clear hf0
  rw [f0] at HO1
  by_cases q5 : U.env.word s = [113]
  · have ha0 : aggW (U.env.word s) = 0 := by rw [q5]; decide
    rw [if_neg (by rw [ha0]; simp), if_neg (by rw [q5]; decide), if_pos q5] at hr
    injection hr with hr
    subst hr
    have hV := fun W (h : RAt U W s xs) => nearQ_any U hU s W xs h hx q5
    have hq : ((mkS (U.env.word s)).toList == [113]) = true := by rw [h113, q5]; rfl
    by_cases g1 : (U.env.near s.adv).2.err = 0
    case neg =>
      have HS : Hid ((U.env.near s.adv).2 = (U.env.near s.adv).2) := Lib.hid rfl
      have HC := Lib.hid (fun W h => outR_bad (hV W h) g1)
      have he := g1
      clear h hU hx hC hfl hal q1 q2 q5 h113 hg hn hV g1 ha0 f0
      generalize U.env.kind s = kd at *
      generalize U.env.near s.adv = r at *
      generalize opF 20 10 (U.env.word s) = f2 at *
      generalize mkS (U.env.word s) = Y at *
      go_enter Tryz.func116, Tryz.ntmps116
      go_wp2_with (first
        | (go_at_call 84; refine HW.out.mono ?_; rintro e w1 ⟨rfl, hb1⟩; have R1 := HP.out.far hb1)
        | (go_at_call 115; first | ((with_reducible refine (HO1.out _ R1).mono ?_); rintro e wo ⟨rfl, rfl⟩) | ((with_reducible refine (HO2.out _ R1).mono ?_); rintro e wo ⟨rfl, rfl⟩))
        | (go_at_call 40; first | ((with_reducible refine (HK.out _ R1).mono ?_); rintro e w2 ⟨rfl, hb2⟩; have R2 := R1.far hb2) | ((with_reducible refine (HK.out _ R2).mono ?_); rintro e w3 ⟨rfl, hb3⟩; have R3 := R2.far hb3))
        | (go_at_call 35; refine (HNm.out _).mono ?_; rintro e wn ⟨rfl, rfl⟩)
        | (go_at_call 130; refine (HC.out _ R2).mono ?_; rintro e wb ⟨rfl, hbad⟩))
      exact ⟨rfl, OutR.of_bad he (show Bad6 U _ _ _ from ⟨rfl, hbad⟩) (by first | exact HS.out | rfl)⟩
    have HE : Hid ((U.env.near s.adv).2.err = 0) := Lib.hid g1
    have HC := Lib.hid (fun W h => outR_good (hV W h) g1)
    clear h hU hx hC hfl hal q1 q2 q5 h113 hg hn hV g1 ha0 f0
    generalize U.env.kind s = kd at *
    generalize U.env.near s.adv = r at *
    generalize opF 20 10 (U.env.word s) = f2 at *
    generalize mkS (U.env.word s) = Y at *
    go_enter Tryz.func116, Tryz.ntmps116
    go_wp2_with (first
      | (go_at_call 84; refine HW.out.mono ?_; rintro e w1 ⟨rfl, hb1⟩; have R1 := HP.out.far hb1)
      | (go_at_call 115; first | ((with_reducible refine (HO1.out _ R1).mono ?_); rintro e wo ⟨rfl, rfl⟩) | ((with_reducible refine (HO2.out _ R1).mono ?_); rintro e wo ⟨rfl, rfl⟩))
      | (go_at_call 40; first | ((with_reducible refine (HK.out _ R1).mono ?_); rintro e w2 ⟨rfl, hb2⟩; have R2 := R1.far hb2) | ((with_reducible refine (HK.out _ R2).mono ?_); rintro e w3 ⟨rfl, hb3⟩; have R3 := R2.far hb3))
      | (go_at_call 35; refine (HNm.out _).mono ?_; rintro e wn ⟨rfl, rfl⟩)
      | (go_at_call 130; refine (HC.out _ R2).mono ?_; rintro e w3 ⟨rfl, R3⟩))
    go_end0
    exact OutR.of_good HE.out ⟨rfl, R3⟩ rfl
  have hq : ((mkS (U.env.word s)).toList == [113]) = false := by rw [h113]; simpa using q5
  by_cases q3 : aggW (U.env.word s) ≠ 0
  · rw [if_pos q3] at hr
    cases h1 : U.env.run n .choice (U.env.want [40] s.adv) with
    | none => rw [h1] at hr; cases hr
    | some x =>
      rw [h1, Option.bind_some] at hr
      injection hr with hr
      subst hr
      have hi : s.i < U.ts.length := word_in6 (x := U.env.word s) (word_agg q3) rfl
      rw [← hal] at q3 ⊢
      have HT := Lib.hid (fun W (h : RAt U W s xs) => take6 U hU s xs W h hi hx ((opF 20 10 (U.env.word s) : Nat) : Int) 0)
      have d : (((opF 20 10 (U.env.word s) : Nat) : Int) == 0) = false := by simpa using q3
      have d2 : (((opF 20 10 (U.env.word s) : Nat) : Int) != 0) = true := by simp; omega
      obtain ⟨f2, hf2⟩ : ∃ f2, f2 = opF 20 10 (U.env.word s) := ⟨_, rfl⟩
      rw [← hf2] at HT HO2 d d2 ⊢
      have hV := fun W (h : RAt U W s.adv (xs ++ [((f2 : Int), 0)])) => brackQ_any U hU n hC s.adv W _ x h (by rw [List.length_append]; show _ ≤ s.i + 1; simp; omega) h1
      by_cases g1 : (U.env.want [41] x.2).err = 0
      case neg =>
        have HS : Hid (((((f2 : Int), 0) :: x.1, U.env.want [41] x.2) : Out).2 = U.env.want [41] x.2) := Lib.hid rfl
        have HC := Lib.hid (fun W h => outR_bad (hV W h) g1)
        have he := g1
        clear h hU hx hC hfl hal q1 q2 q3 q5 h113 hg hn hV g1 f0 h1 hi hf2
        generalize U.env.kind s = kd at *
        generalize mkS (U.env.word s) = Y at *
        go_enter Tryz.func116, Tryz.ntmps116
        go_wp2_with (first
          | (go_at_call 84; refine HW.out.mono ?_; rintro e w1 ⟨rfl, hb1⟩; have R1 := HP.out.far hb1)
          | (go_at_call 115; first | ((with_reducible refine (HO1.out _ R1).mono ?_); rintro e wo ⟨rfl, rfl⟩) | ((with_reducible refine (HO2.out _ R1).mono ?_); rintro e wo ⟨rfl, rfl⟩))
          | (go_at_call 40; first | ((with_reducible refine (HK.out _ R1).mono ?_); rintro e w2 ⟨rfl, hb2⟩; have R2 := R1.far hb2) | ((with_reducible refine (HK.out _ R2).mono ?_); rintro e w3 ⟨rfl, hb3⟩; have R3 := R2.far hb3))
          | (go_at_call 35; refine (HNm.out _).mono ?_; rintro e wn ⟨rfl, rfl⟩)
          | (go_at_call 117; refine (HT.out _ R2).mono ?_; rintro e w3 ⟨rfl, R3⟩)
          | (go_at_call 131; refine (HC.out _ R3).mono ?_; rintro e wb ⟨rfl, hbad⟩))
        exact ⟨rfl, OutR.of_bad he (show Bad6 U _ _ _ from ⟨rfl, hbad⟩) (by first | exact HS.out | rfl)⟩
      have HE : Hid (((((f2 : Int), 0) :: x.1, U.env.want [41] x.2) : Out).2.err = 0) := Lib.hid g1
      have HC := Lib.hid (fun W h => outR_good (hV W h) g1)
      clear h hU hx hC hfl hal q1 q2 q3 q5 h113 hg hn hV g1 f0 h1 hi hf2
      generalize U.env.kind s = kd at *
      generalize mkS (U.env.word s) = Y at *
      go_enter Tryz.func116, Tryz.ntmps116
      go_wp2_with (first
        | (go_at_call 84; refine HW.out.mono ?_; rintro e w1 ⟨rfl, hb1⟩; have R1 := HP.out.far hb1)
        | (go_at_call 115; first | ((with_reducible refine (HO1.out _ R1).mono ?_); rintro e wo ⟨rfl, rfl⟩) | ((with_reducible refine (HO2.out _ R1).mono ?_); rintro e wo ⟨rfl, rfl⟩))
        | (go_at_call 40; first | ((with_reducible refine (HK.out _ R1).mono ?_); rintro e w2 ⟨rfl, hb2⟩; have R2 := R1.far hb2) | ((with_reducible refine (HK.out _ R2).mono ?_); rintro e w3 ⟨rfl, hb3⟩; have R3 := R2.far hb3))
        | (go_at_call 35; refine (HNm.out _).mono ?_; rintro e wn ⟨rfl, rfl⟩)
        | (go_at_call 117; refine (HT.out _ R2).mono ?_; rintro e w3 ⟨rfl, R3⟩)
        | (go_at_call 131; refine (HC.out _ R3).mono ?_; rintro e w4 ⟨rfl, R4⟩))
      go_end0
      exact OutR.of_good HE.out ⟨rfl, R4⟩ (by simp)
  rw [if_neg q3] at hr
  have ha0 : aggW (U.env.word s) = 0 := by omega
  have a0 : opF 20 10 (U.env.word s) = 0 := by omega
  clear ha0
  rw [a0] at HO2
  by_cases q4 : U.env.word s = [40]
  · rw [if_pos q4] at hr
    cases h1 : U.env.run n .choice s.adv with
    | none => rw [h1] at hr; cases hr
    | some x =>
      rw [h1, Option.bind_some] at hr
      injection hr with hr
      subst hr
      have hw : U.env.want [40] s = s.adv := by unfold Env.want; rw [if_pos q4]
      rw [← hw] at h1
      have hV := fun W (h : RAt U W s xs) => brackQ_any U hU n hC s W xs x h hx h1
      by_cases g1 : (U.env.want [41] x.2).err = 0
      case neg =>
        have HS : Hid (((x.1, U.env.want [41] x.2) : Out).2 = U.env.want [41] x.2) := Lib.hid rfl
        have HC := Lib.hid (fun W h => outR_bad (hV W h) g1)
        have he := g1
        clear h hU hx hC hfl hal q1 q2 q3 q4 q5 h113 hg hn hV g1 f0 a0 h1 hw
        generalize U.env.kind s = kd at *
        generalize mkS (U.env.word s) = Y at *
        go_enter Tryz.func116, Tryz.ntmps116
        go_wp2_with (first
          | (go_at_call 84; refine HW.out.mono ?_; rintro e w1 ⟨rfl, hb1⟩; have R1 := HP.out.far hb1)
          | (go_at_call 115; first | ((with_reducible refine (HO1.out _ R1).mono ?_); rintro e wo ⟨rfl, rfl⟩) | ((with_reducible refine (HO2.out _ R1).mono ?_); rintro e wo ⟨rfl, rfl⟩))
          | (go_at_call 40; first | ((with_reducible refine (HK.out _ R1).mono ?_); rintro e w2 ⟨rfl, hb2⟩; have R2 := R1.far hb2) | ((with_reducible refine (HK.out _ R2).mono ?_); rintro e w3 ⟨rfl, hb3⟩; have R3 := R2.far hb3))
          | (go_at_call 35; refine (HNm.out _).mono ?_; rintro e wn ⟨rfl, rfl⟩)
          | (go_at_call 131; refine (HC.out _ R2).mono ?_; rintro e wb ⟨rfl, hbad⟩))
        exact ⟨rfl, OutR.of_bad he (show Bad6 U _ _ _ from ⟨rfl, hbad⟩) (by first | exact HS.out | rfl)⟩
      have HE : Hid (((x.1, U.env.want [41] x.2) : Out).2.err = 0) := Lib.hid g1
      have HC := Lib.hid (fun W h => outR_good (hV W h) g1)
      clear h hU hx hC hfl hal q1 q2 q3 q4 q5 h113 hg hn hV g1 f0 a0 h1 hw
      generalize U.env.kind s = kd at *
      generalize mkS (U.env.word s) = Y at *
      go_enter Tryz.func116, Tryz.ntmps116
      go_wp2_with (first
        | (go_at_call 84; refine HW.out.mono ?_; rintro e w1 ⟨rfl, hb1⟩; have R1 := HP.out.far hb1)
        | (go_at_call 115; first | ((with_reducible refine (HO1.out _ R1).mono ?_); rintro e wo ⟨rfl, rfl⟩) | ((with_reducible refine (HO2.out _ R1).mono ?_); rintro e wo ⟨rfl, rfl⟩))
        | (go_at_call 40; first | ((with_reducible refine (HK.out _ R1).mono ?_); rintro e w2 ⟨rfl, hb2⟩; have R2 := R1.far hb2) | ((with_reducible refine (HK.out _ R2).mono ?_); rintro e w3 ⟨rfl, hb3⟩; have R3 := R2.far hb3))
        | (go_at_call 35; refine (HNm.out _).mono ?_; rintro e wn ⟨rfl, rfl⟩)
        | (go_at_call 131; refine (HC.out _ R2).mono ?_; rintro e w3 ⟨rfl, R3⟩))
      go_end0
      exact OutR.of_good HE.out ⟨rfl, R3⟩ rfl
  rw [if_neg q4, if_neg q5] at hr
  injection hr with hr
  subst hr
  have hv : U.env.var 5 s = ([], U.env.fail s 4) := by
    unfold Env.var
    rw [if_pos hn]
  rw [hv]
  have HC := Lib.hid (fun W (h : RAt U W s xs) => brackQ_no U hU s W xs h q4)
  have he := fail_err U.env s (e := 4) (by decide)
  have HS : Hid ((([], U.env.fail s 4) : Out).2 = U.env.fail s 4) := Lib.hid rfl
  clear h hU hx hC hfl hal q1 q2 q3 q4 q5 h113 hg hn f0 a0 hv
  generalize U.env.fail s 4 = s4 at *
  generalize U.env.kind s = kd at *
  generalize mkS (U.env.word s) = Y at *
  go_enter Tryz.func116, Tryz.ntmps116
  go_wp2_with (first
    | (go_at_call 84; refine HW.out.mono ?_; rintro e w1 ⟨rfl, hb1⟩; have R1 := HP.out.far hb1)
    | (go_at_call 115; first | ((with_reducible refine (HO1.out _ R1).mono ?_); rintro e wo ⟨rfl, rfl⟩) | ((with_reducible refine (HO2.out _ R1).mono ?_); rintro e wo ⟨rfl, rfl⟩))
    | (go_at_call 40; first | ((with_reducible refine (HK.out _ R1).mono ?_); rintro e w2 ⟨rfl, hb2⟩; have R2 := R1.far hb2) | ((with_reducible refine (HK.out _ R2).mono ?_); rintro e w3 ⟨rfl, hb3⟩; have R3 := R2.far hb3))
    | (go_at_call 35; refine (HNm.out _).mono ?_; rintro e wn ⟨rfl, rfl⟩)
    | (go_at_call 131; refine (HC.out _ R2).mono ?_; rintro e wb ⟨rfl, hbad⟩))
  exact ⟨rfl, OutR.of_bad he (show Bad6 U _ _ _ from ⟨rfl, hbad⟩) (by first | exact HS.out | rfl)⟩
end Go.Proofs.YtokmehjofboflaaGreatDoor
