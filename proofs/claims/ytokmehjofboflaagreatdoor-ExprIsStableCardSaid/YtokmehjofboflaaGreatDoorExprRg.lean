/- The recursion of the program's reader: choice, unary, primary, joined. -/
import Derived.Test.YtokmehjofboflaaGreatDoorExprRu
namespace Go.Proofs.YtokmehjofboflaaGreatDoor
set_option maxRecDepth 100000
open Go.RowKit

theorem outR_good {U : Sup} {xs : List (Int × Int)} {r : Out} {k : FuncId} {args : Array Value} {w : World} (h : Calls Tryz.prog k args w (OutR U xs r)) (he : r.2.err = 0) : Calls Tryz.prog k args w (Good6 U r.2 (xs ++ r.1)) :=
  h.mono fun e w' hh => by
    rcases hh with ⟨_, hh⟩ | ⟨k, _⟩
    · exact hh
    · exact absurd he k
theorem outR_bad {U : Sup} {xs : List (Int × Int)} {r : Out} {k : FuncId} {args : Array Value} {w : World} (h : Calls Tryz.prog k args w (OutR U xs r)) (he : r.2.err ≠ 0) : Calls Tryz.prog k args w (Bad6 U r.2) :=
  h.mono fun e w' hh => by
    rcases hh with ⟨k, _⟩ | ⟨_, hh⟩
    · exact absurd k he
    · exact hh
theorem OutR.of_good {U : Sup} {xs zs : List (Int × Int)} {r : Out} {e : Ending} {w' : World} (he : r.2.err = 0) (h : Good6 U r.2 zs e w') (hz : zs = xs ++ r.1) : OutR U xs r e w' := .inl ⟨he, hz ▸ h⟩
theorem OutR.of_bad {U : Sup} {xs : List (Int × Int)} {r : Out} {s : St} {e : Ending} {w' : World} (he : s.err ≠ 0) (h : Bad6 U s e w') (hs : r.2 = s) : OutR U xs r e w' := .inr ⟨by rw [hs]; exact he, by rw [hs]; exact h⟩
/-- what a call does for a goal -/
def CallsP (U : Sup) (n : Nat) (g : Go6) : Prop := ∀ (s : St) (w : World) (xs : List (Int × Int)) (r : Out), RAt U w s xs → xs.length ≤ s.i → U.env.run n g s = some r → match g with
  | .choice => Calls Tryz.prog 41 #[.pointer (some ⟨U.W0.heap.size, 0, none⟩)] w (OutR U xs r)
  | .bin lv => ∀ z : Int, z + 1 = (lv : Int) → Calls Tryz.prog 83 #[.pointer (some ⟨U.W0.heap.size, 0, none⟩), .int .i64 z] w (OutR U xs r)
  | .unary => Calls Tryz.prog 106 #[.pointer (some ⟨U.W0.heap.size, 0, none⟩)] w (OutR U xs r)
  | .prim => Calls Tryz.prog 116 #[.pointer (some ⟨U.W0.heap.size, 0, none⟩)] w (OutR U xs r)
  | .more _ _ => True
theorem run_grow {U : Sup} {n : Nat} {g : Go6} {s : St} {r : Out} (h : U.env.run n g s = some r) {b : Nat} (hb : b + g.base ≤ s.i) : b + r.1.length ≤ r.2.i := by
  have f := (run_fine U.env n g s r h).len
  omega
theorem RAt.few6 {U : Sup} (hU : U.Ok) {w : World} {s : St} {xs ys : List (Int × Int)} (h : RAt U w s ys) (hx : xs.length ≤ s.i) : xs.length ≤ 100000 := by
  have := h.low
  have := hU.few
  omega
theorem word_top {U : Sup} {s : St} {x : UInt8} {l : Bytes} (h : U.env.word s = x :: l) : s.i < U.ts.length := word_in6 (by simp) h
theorem bad_word {U : Sup} {s : St} (h : s.err ≠ 0) : U.env.word s = [] := word_bad h
theorem want_bad {U : Sup} {x : Bytes} {s : St} (h : s.err ≠ 0) (hx : x ≠ []) : U.env.want x s = s := by
  unfold Env.want
  rw [if_neg (by rw [bad_word h]; exact fun e => hx e.symm), fail_bad h]
theorem expect_good (U : Sup) (hU : U.Ok) (s : St) (xs : List (Int × Int)) (w : World) (h : RAt U w s xs) (x : UInt8) (X : ByteArray) (hX : mkS [x] = X) (he : (U.env.want [x] s).err = 0) :
    Calls Tryz.prog 86 #[.pointer (some ⟨U.W0.heap.size, 0, none⟩), .string X] w (Good6 U (U.env.want [x] s) xs) := by
  have := expectQ_any U hU s xs w h x X hX
  rwa [if_pos he] at this
theorem expect_bad (U : Sup) (hU : U.Ok) (s : St) (xs : List (Int × Int)) (w : World) (h : RAt U w s xs) (x : UInt8) (X : ByteArray) (hX : mkS [x] = X) (he : (U.env.want [x] s).err ≠ 0) :
    Calls Tryz.prog 86 #[.pointer (some ⟨U.W0.heap.size, 0, none⟩), .string X] w (Bad6 U (U.env.want [x] s)) := by
  have := expectQ_any U hU s xs w h x X hX
  rwa [if_neg he] at this
theorem ahead6 (U : Sup) (hU : U.Ok) (s : St) (xs l : List (Int × Int)) (w : World) (h : RAt U w s (xs ++ l)) (hi : s.i < U.ts.length) (hx : (xs ++ l).length ≤ s.i) (hl : l ≠ []) (op : Int) :
    Calls Tryz.prog 85 #[.pointer (some ⟨U.W0.heap.size, 0, none⟩), .int .i64 (xs.length : Int), .int .i64 op] w (Good6 U s.adv (xs ++ (op, 0) :: l)) := by
  have hp : xs.length < (xs ++ l).length := by
    rw [List.length_append]
    have := List.length_pos_iff.2 hl
    omega
  have := aheadQ_any U s (xs ++ l) w h hi (h.few6 hU hx) xs.length hp op
  rw [List.take_left' rfl, List.drop_left' rfl] at this
  exact this

theorem brackQ_any (U : Sup) (hU : U.Ok) (n : Nat) (hC : CallsP U n .choice) (s : St) (w : World) (xs : List (Int × Int)) (y : Out) (h : RAt U w s xs) (hx : xs.length ≤ s.i) (hr : U.env.run n .choice (U.env.want [40] s) = some y) :
    Calls Tryz.prog 131 #[.pointer (some ⟨U.W0.heap.size, 0, none⟩)] w (OutR U xs (y.1, U.env.want [41] y.2)) := by
  by_cases h1 : (U.env.want [40] s).err = 0
  case neg =>
    have HS : Hid (((y.1, U.env.want [41] y.2) : Out).2 = U.env.want [40] s) := Lib.hid (by
      have e := run_bad hr h1
      show U.env.want [41] y.2 = _
      rw [e, want_bad h1 (by simp)])
    have HX := Lib.hid (expect_bad U hU s xs w h 40 ⟨#[40]⟩ rfl h1)
    have he := h1
    clear h hU hC hr hx h1

    go_enter Tryz.func131, Tryz.ntmps131
    go_wp2_with (first
      | (go_at_call 86; refine (HX.out).mono ?_; rintro e wb ⟨rfl, hbad⟩))
    exact ⟨rfl, OutR.of_bad he (show Bad6 U _ _ _ from ⟨rfl, hbad⟩) (by first | exact HS.out | rfl)⟩
  obtain ⟨hw40, e40⟩ := want_good (V := U.env) h1
  have hi := word_top hw40
  have HX := Lib.hid (expect_good U hU s xs w h 40 ⟨#[40]⟩ rfl h1)
  have hx1 : xs.length ≤ (U.env.want [40] s).i := by rw [e40]; show _ ≤ s.i + 1; omega
  by_cases h2 : y.2.err = 0
  case neg =>
    have HS : Hid (((y.1, U.env.want [41] y.2) : Out).2 = y.2) := Lib.hid (want_bad h2 (by simp))
    have HC := Lib.hid (fun W (h : RAt U W (U.env.want [40] s) xs) => outR_bad (hC _ W xs y h hx1 hr) h2)
    have he := h2
    clear h hU hC hr hx h1 h2 hw40 e40 hi hx1
    go_enter Tryz.func131, Tryz.ntmps131
    go_wp2_with (first
      | (go_at_call 86; refine (HX.out).mono ?_; rintro e w1 ⟨rfl, R1⟩)
      | (go_at_call 41; refine (HC.out _ R1).mono ?_; rintro e wb ⟨rfl, hbad⟩))
    exact ⟨rfl, OutR.of_bad he (show Bad6 U _ _ _ from ⟨rfl, hbad⟩) (by first | exact HS.out | rfl)⟩
  have HC := Lib.hid (fun W (h : RAt U W (U.env.want [40] s) xs) => outR_good (hC _ W xs y h hx1 hr) h2)
  by_cases h3 : (U.env.want [41] y.2).err = 0
  case neg =>
    have HS : Hid (((y.1, U.env.want [41] y.2) : Out).2 = U.env.want [41] y.2) := Lib.hid rfl
    have HX2 := Lib.hid (fun W (h : RAt U W y.2 (xs ++ y.1)) => expect_bad U hU y.2 _ W h 41 ⟨#[41]⟩ rfl h3)
    have he := h3
    clear h hU hC hr hx h1 h2 h3 hw40 e40 hi hx1
    go_enter Tryz.func131, Tryz.ntmps131
    go_wp2_with (first
      | (go_at_call 86; first | ((with_reducible refine HX.out.mono ?_); rintro e w1 ⟨rfl, R1⟩) | ((with_reducible refine (HX2.out _ R2).mono ?_); rintro e wb ⟨rfl, hbad⟩))
      | (go_at_call 41; refine (HC.out _ R1).mono ?_; rintro e w2 ⟨rfl, R2⟩))
    exact ⟨rfl, OutR.of_bad he (show Bad6 U _ _ _ from ⟨rfl, hbad⟩) (by first | exact HS.out | rfl)⟩
  have HE : Hid (((y.1, U.env.want [41] y.2) : Out).2.err = 0) := Lib.hid h3
  have HX2 := Lib.hid (fun W (h : RAt U W y.2 (xs ++ y.1)) => expect_good U hU y.2 _ W h 41 ⟨#[41]⟩ rfl h3)
  clear h hU hC hr hx h1 h2 h3 hw40 e40 hi hx1
  go_enter Tryz.func131, Tryz.ntmps131
  go_wp2_with (first
    | (go_at_call 86; first | ((with_reducible refine HX.out.mono ?_); rintro e w1 ⟨rfl, R1⟩) | ((with_reducible refine (HX2.out _ R2).mono ?_); rintro e w3 ⟨rfl, R3⟩))
    | (go_at_call 41; refine (HC.out _ R1).mono ?_; rintro e w2 ⟨rfl, R2⟩))
  go_end0
  exact OutR.of_good HE.out ⟨rfl, R3⟩ rfl
set_option maxHeartbeats 2000000 in
theorem choiceQ_any (U : Sup) (hU : U.Ok) (n : Nat) (hB : CallsP U n (.bin 2)) (hC : CallsP U n .choice) : CallsP U (n + 1) .choice := by
  intro s w xs r h hx hr
  dsimp only
  unfold Env.run at hr
  have HW := Lib.hid (fun s' ys W (h : RAt U W s' ys) => wordQ_any U hU s' ys W h)
  obtain ⟨v, hv, hO⟩ := h.c3
  obtain ⟨va, vc, rfl, _, _⟩ := hO.shape
  cases h1 : U.env.run n (.bin 2) s with
  | none => rw [h1] at hr; cases hr
  | some c =>
  rw [h1, Option.bind_some] at hr
  have hJ := hB s w xs c h hx h1 1 rfl
  have hx1 : xs.length + c.1.length ≤ c.2.i := run_grow h1 (by simp [Go6.base]; exact hx)
  by_cases g1 : c.2.err = 0
  case neg =>
    rw [if_neg (by rw [bad_word g1]; simp)] at hr
    injection hr with hr
    subst hr
    have HS : Hid (c.2 = c.2) := Lib.hid rfl
    have HJ := Lib.hid (outR_bad hJ g1)
    have he := g1
    clear h hU hB hC h1 hJ hx1 g1 hx
    go_enter Tryz.func41, Tryz.ntmps41
    go_wp2_with (first
      | (go_at_call 83; refine (HJ.out).mono ?_; rintro e wb ⟨rfl, hbad⟩))
    exact ⟨rfl, OutR.of_bad he (show Bad6 U _ _ _ from ⟨rfl, hbad⟩) (by first | exact HS.out | rfl)⟩
  have HJ := Lib.hid (outR_good hJ g1)
  by_cases q : U.env.word c.2 = [63]
  case neg =>
    rw [if_neg q] at hr
    injection hr with hr
    subst hr
    have HE := Lib.hid g1
    have hq := mkS_not q
    have hq2 : ((mkS (U.env.word c.2)).toList == [63]) = false := by
      rw [show ([63] : List UInt8) = (mkS [63]).toList by rw [ByteArray.toList_eq, mkS_list]]
      exact hq
    clear h hU hB hC h1 hJ hx1 g1 hx q
    obtain ⟨Y, hY⟩ : ∃ Y, mkS (U.env.word c.2) = Y := ⟨_, rfl⟩
    rw [hY] at hq2
    go_enter Tryz.func41, Tryz.ntmps41
    go_wp2_with (first
      | (go_at_call 83; refine (HJ.out).mono ?_; rintro e w1 ⟨rfl, R1⟩)
      | (go_at_call 84; have HW1 := HW.out _ _ _ R1; rw [hY] at HW1; refine HW1.mono ?_; rintro e w2 ⟨rfl, hb2⟩; have R2 := R1.far hb2))
    go_end0
    exact OutR.of_good HE.out ⟨rfl, R2⟩ rfl
  rw [if_pos q] at hr
  have hi := word_top q
  have hc1 : c.1 ≠ [] := run_some U.env n _ _ _ h1 g1 (fun _ _ e => by injection e)
  have hq : ((⟨#[63]⟩ : ByteArray).toList == (⟨#[63]⟩ : ByteArray).toList) = true := mkS_same [63]
  have hY : mkS (U.env.word c.2) = ⟨#[63]⟩ := by rw [q]; rfl
  have HA := Lib.hid (fun W (h : RAt U W c.2 (xs ++ c.1)) => ahead6 U hU c.2 xs c.1 W h hi (by rw [List.length_append]; exact hx1) hc1 43)
  cases h2 : U.env.run n .choice c.2.adv with
  | none => rw [h2] at hr; cases hr
  | some a =>
  rw [h2, Option.bind_some] at hr
  have hx2 : (xs ++ (43, 0) :: c.1).length ≤ c.2.adv.i := by simp [St.adv]; omega
  have hC1 := fun W (h : RAt U W c.2.adv (xs ++ (43, 0) :: c.1)) => hC _ W _ a h hx2 h2
  have hx3 : (xs ++ (43, 0) :: c.1).length + a.1.length ≤ a.2.i := run_grow h2 (by simpa [Go6.base] using hx2)
  cases h3 : U.env.run n .choice (U.env.want [58] a.2) with
  | none => rw [h3] at hr; cases hr
  | some b =>
  rw [h3, Option.bind_some] at hr
  injection hr with hr
  subst hr
  by_cases g2 : a.2.err = 0
  case neg =>
    have HS : Hid ((((43, 0) :: (c.1 ++ (a.1 ++ b.1)), b.2) : Out).2 = a.2) := Lib.hid (by
      rw [want_bad g2 (by simp)] at h3
      show b.2 = _
      exact run_bad h3 g2)
    have HC1 := Lib.hid (fun W h => outR_bad (hC1 W h) g2)
    have he := g2
    clear h hU hB hC h1 hJ hx1 g1 hx q hi hc1 h2 hx2 hC1 hx3 h3 g2
    go_enter Tryz.func41, Tryz.ntmps41
    go_wp2_with (first
      | (go_at_call 83; refine (HJ.out).mono ?_; rintro e w1 ⟨rfl, R1⟩)
      | (go_at_call 84; have HW1 := HW.out _ _ _ R1; rw [hY] at HW1; refine HW1.mono ?_; rintro e w2 ⟨rfl, hb2⟩; have R2 := R1.far hb2)
      | (go_at_call 85; refine (HA.out _ R2).mono ?_; rintro e w3 ⟨rfl, R3⟩)
      | (go_at_call 41; refine (HC1.out _ R3).mono ?_; rintro e wb ⟨rfl, hbad⟩))
    exact ⟨rfl, OutR.of_bad he (show Bad6 U _ _ _ from ⟨rfl, hbad⟩) (by first | exact HS.out | rfl)⟩
  have HC1 := Lib.hid (fun W h => outR_good (hC1 W h) g2)
  by_cases g3 : (U.env.want [58] a.2).err = 0
  case neg =>
    have HS : Hid ((((43, 0) :: (c.1 ++ (a.1 ++ b.1)), b.2) : Out).2 = U.env.want [58] a.2) := Lib.hid (show b.2 = _ from run_bad h3 g3)
    have HX := Lib.hid (fun W (h : RAt U W a.2 ((xs ++ (43, 0) :: c.1) ++ a.1)) => expect_bad U hU a.2 _ W h 58 ⟨#[58]⟩ rfl g3)
    have he := g3
    clear h hU hB hC h1 hJ hx1 g1 hx q hi hc1 h2 hx2 hC1 hx3 h3 g2 g3
    go_enter Tryz.func41, Tryz.ntmps41
    go_wp2_with (first
      | (go_at_call 83; refine (HJ.out).mono ?_; rintro e w1 ⟨rfl, R1⟩)
      | (go_at_call 84; have HW1 := HW.out _ _ _ R1; rw [hY] at HW1; refine HW1.mono ?_; rintro e w2 ⟨rfl, hb2⟩; have R2 := R1.far hb2)
      | (go_at_call 85; refine (HA.out _ R2).mono ?_; rintro e w3 ⟨rfl, R3⟩)
      | (go_at_call 41; refine (HC1.out _ R3).mono ?_; rintro e w4 ⟨rfl, R4⟩)
      | (go_at_call 86; refine (HX.out _ R4).mono ?_; rintro e wb ⟨rfl, hbad⟩))
    exact ⟨rfl, OutR.of_bad he (show Bad6 U _ _ _ from ⟨rfl, hbad⟩) (by first | exact HS.out | rfl)⟩
  obtain ⟨hw58, e58⟩ := want_good (V := U.env) g3
  have HX := Lib.hid (fun W (h : RAt U W a.2 ((xs ++ (43, 0) :: c.1) ++ a.1)) => expect_good U hU a.2 _ W h 58 ⟨#[58]⟩ rfl g3)
  have hC2 := fun W (h : RAt U W (U.env.want [58] a.2) ((xs ++ (43, 0) :: c.1) ++ a.1)) => hC _ W _ b h (by rw [e58, List.length_append]; show _ ≤ a.2.i + 1; omega) h3
  by_cases g4 : b.2.err = 0
  case neg =>
    have HS : Hid ((((43, 0) :: (c.1 ++ (a.1 ++ b.1)), b.2) : Out).2 = b.2) := Lib.hid rfl
    have HC2 := Lib.hid (fun W h => outR_bad (hC2 W h) g4)
    have he := g4
    clear h hU hB hC h1 hJ hx1 g1 hx q hi hc1 h2 hx2 hC1 hx3 h3 g2 g3 g4 hw58 e58 hC2
    go_enter Tryz.func41, Tryz.ntmps41
    go_wp2_with (first
      | (go_at_call 83; refine (HJ.out).mono ?_; rintro e w1 ⟨rfl, R1⟩)
      | (go_at_call 84; have HW1 := HW.out _ _ _ R1; rw [hY] at HW1; refine HW1.mono ?_; rintro e w2 ⟨rfl, hb2⟩; have R2 := R1.far hb2)
      | (go_at_call 85; refine (HA.out _ R2).mono ?_; rintro e w3 ⟨rfl, R3⟩)
      | (go_at_call 41; first | ((with_reducible refine (HC1.out _ R3).mono ?_); rintro e w4 ⟨rfl, R4⟩) | ((with_reducible refine (HC2.out _ R5).mono ?_); rintro e wb ⟨rfl, hbad⟩))
      | (go_at_call 86; refine (HX.out _ R4).mono ?_; rintro e w5 ⟨rfl, R5⟩))
    exact ⟨rfl, OutR.of_bad he (show Bad6 U _ _ _ from ⟨rfl, hbad⟩) (by first | exact HS.out | rfl)⟩
  have HE : Hid ((((43, 0) :: (c.1 ++ (a.1 ++ b.1)), b.2) : Out).2.err = 0) := Lib.hid g4
  have HC2 := Lib.hid (fun W h => outR_good (hC2 W h) g4)
  clear h hU hB hC h1 hJ hx1 g1 hx q hi hc1 h2 hx2 hC1 hx3 h3 g2 g3 g4 hw58 e58 hC2
  go_enter Tryz.func41, Tryz.ntmps41
  go_wp2_with (first
    | (go_at_call 83; refine (HJ.out).mono ?_; rintro e w1 ⟨rfl, R1⟩)
    | (go_at_call 84; have HW1 := HW.out _ _ _ R1; rw [hY] at HW1; refine HW1.mono ?_; rintro e w2 ⟨rfl, hb2⟩; have R2 := R1.far hb2)
    | (go_at_call 85; refine (HA.out _ R2).mono ?_; rintro e w3 ⟨rfl, R3⟩)
    | (go_at_call 41; first | ((with_reducible refine (HC1.out _ R3).mono ?_); rintro e w4 ⟨rfl, R4⟩) | ((with_reducible refine (HC2.out _ R5).mono ?_); rintro e w6 ⟨rfl, R6⟩))
    | (go_at_call 86; refine (HX.out _ R4).mono ?_; rintro e w5 ⟨rfl, R5⟩))
  go_end0
  exact OutR.of_good HE.out ⟨rfl, R6⟩ (by simp)
end Go.Proofs.YtokmehjofboflaaGreatDoor
