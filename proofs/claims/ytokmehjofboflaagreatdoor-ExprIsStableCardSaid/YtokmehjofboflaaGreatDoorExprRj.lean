/- joined of the program's reader, and all of it. -/
import Derived.Test.YtokmehjofboflaaGreatDoorExprRk
namespace Go.Proofs.YtokmehjofboflaaGreatDoor
set_option maxRecDepth 100000
open Go.RowKit

/-- the number of tokens that are left, as the world holds it -/
def leftP (U : Sup) (w : World) : Nat := match w.cell? ⟨U.W0.heap.size, 1, none⟩ with
  | some (.slice _ n _) => n
  | _ => 0
theorem left_eq {U : Sup} {w : World} {s : St} {xs : List (Int × Int)} (h : RAt U w s xs) : leftP U w = U.ts.length - s.i := by
  obtain ⟨a, c, e, _⟩ := h.c1
  unfold leftP
  rw [e]
set_option maxHeartbeats 4000000 in
theorem joinQ_any (U : Sup) (hU : U.Ok) (n lv : Nat) (hl2 : 2 ≤ lv) (h8 : lv ≤ 7) (hu : CallsP U n .unary) (hb : lv ≤ 6 → ∀ m, m ≤ n → CallsP U m (.bin (lv + 1))) : CallsP U (n + 1) (.bin lv) := by
  intro s w xs r h hx hr z hz
  unfold Env.run at hr
  obtain ⟨v, hv, hO⟩ := h.c3
  obtain ⟨va, vc, rfl, _, _⟩ := hO.shape
  by_cases h6 : 6 < lv
  · rw [if_pos h6] at hr
    obtain rfl : z = 6 := by omega
    have hC := hu s w xs r h hx hr
    dsimp only at hC
    by_cases g1 : r.2.err = 0
    case neg =>
      have HS : Hid (r.2 = r.2) := Lib.hid rfl
      have HC := Lib.hid (outR_bad hC g1)
      have he := g1
      clear h hU hx hr hu hb hC g1 hO hv
      go_enter Tryz.func83, Tryz.ntmps83
      go_wp2_with (first
        | (go_at_call 106; refine (HC.out).mono ?_; rintro e wb ⟨rfl, hbad⟩))
      exact ⟨rfl, OutR.of_bad he (show Bad6 U _ _ _ from ⟨rfl, hbad⟩) (by first | exact HS.out | rfl)⟩
    have HE : Hid (r.2.err = 0) := Lib.hid g1
    have HC := Lib.hid (outR_good hC g1)
    clear h hU hx hr hu hb hC g1 hO hv
    go_enter Tryz.func83, Tryz.ntmps83
    go_wp2_with (first
      | (go_at_call 106; refine (HC.out).mono ?_; rintro e w1 ⟨rfl, R1⟩))
    (try simp only [Exit.inBlock, Exit.then])
    refine bodyPost_ret (results_none rfl _ _ _) rfl ?_
    exact OutR.of_good HE.out ⟨rfl, R1⟩ rfl
  rw [if_neg h6] at hr
  obtain ⟨q, rfl⟩ : ∃ q : Nat, z = (q : Int) := ⟨lv - 1, by omega⟩
  have hq6 : q ≤ 5 := by omega
  have d6 : ((q : Int) == 6) = false := by simp; omega
  cases h1 : U.env.run n (.bin (lv + 1)) s with
  | none => rw [h1] at hr; cases hr
  | some l0 =>
  rw [h1, Option.bind_some] at hr
  have hJ := hb (by omega) n (Nat.le_refl _) s w xs l0 h hx h1 ((q : Int) + 1) (by omega)
  by_cases g1 : l0.2.err = 0
  case neg =>
    have HS : Hid (r.2 = l0.2) := Lib.hid (run_bad hr g1)
    have HC := Lib.hid (outR_bad hJ g1)
    have he := g1
    clear h hU hx hr hu hb hJ g1 hO h1 hz
    go_enter Tryz.func83, Tryz.ntmps83
    go_wp2_with (first
      | (go_at_call 83; refine (HC.out).mono ?_; rintro e wb ⟨rfl, hbad⟩))
    exact ⟨rfl, OutR.of_bad he (show Bad6 U _ _ _ from ⟨rfl, hbad⟩) (by first | exact HS.out | rfl)⟩
  have HC := Lib.hid (outR_good hJ g1)
  have HSg := Lib.hid (fun s' ys W (h : RAt U W s' ys) => signQ_any U hU s' ys W h lv (q : Int) hz)
  have HB := Lib.hid (fun m (hm : m ≤ n) (s' : St) (W : World) (ys : List (Int × Int)) (o' : Out) (h' : RAt U W s' ys) (hy : ys.length ≤ s'.i) (hr' : U.env.run m (.bin (lv + 1)) s' = some o') => hb (by omega) m hm s' W ys o' h' hy hr' ((q : Int) + 1) (by omega))
  have hl0 : l0.1 ≠ [] := run_some U.env n _ _ _ h1 g1 (fun _ _ e => by injection e)
  have hx0 : xs.length + l0.1.length ≤ l0.2.i := run_grow h1 (by simpa [Go6.base] using hx)
  have HR := Lib.hid hr
  have HL0 := Lib.hid hl0
  have HX0 := Lib.hid hx0
  have HU := Lib.hid hU
  have hsg := fun (l : Bytes) => signP_iff (lv := lv) (by omega) (by omega) l
  have HSI := Lib.hid hsg
  have HZ := Lib.hid hz
  have HL2 := Lib.hid (show 2 ≤ lv ∧ lv ≤ 6 by omega)
  clear h hU hx hr hu hb hJ g1 hO h1 hl0 hx0 hsg hz hl2 h8 h6
  obtain ⟨m, hm⟩ : ∃ m, m = xs.length := ⟨_, rfl⟩
  rw [← hm] at hv
  have HM := Lib.hid hm
  clear hm
  go_enter Tryz.func83, Tryz.ntmps83
  go_wp2_with (first | (go_at_call 83; refine (HC.out).mono ?_; rintro e w1 ⟨rfl, R1⟩) | (go_at_call 107; refine (HSg.out _ _ _ R1).mono ?_; rintro e w2 ⟨rfl, hb2⟩; have R2 := R1.far hb2))
  go_loopw [5] (fun t wr => ∃ (k : Nat) (l : List (Int × Int)) (s' : St), t = .int .i64 (signP lv (U.env.word s') : Nat) ∧ k ≤ n ∧ l ≠ [] ∧ xs.length + l.length ≤ s'.i ∧ RAt U wr s' (xs ++ l) ∧ U.env.run k (.more lv l) s' = some r) (fun t wr => leftP U wr)
  case atStart => exact ⟨n, l0.1, l0.2, rfl, Nat.le_refl _, HL0.out, HX0.out, R2, HR.out⟩
  case round =>
    obtain ⟨k, l, s', rfl, hk, hl, hxl, R, hrun⟩ := hrel
    cases k with
    | zero => unfold Env.run at hrun; cases hrun
    | succ k =>
    unfold Env.run at hrun
    obtain ⟨hs0, hs1⟩ := HSI.out (U.env.word s')
    have HR3 := Lib.hid R
    by_cases hq : signP lv (U.env.word s') = 0
    · rw [if_pos (hs0.1 hq)] at hrun
      injection hrun with hrun
      subst hrun
      rw [hq]
      clear hs0 hs1 hq hl hxl hk R
      go_wp2
      go_end0
      exact OutR.of_good HR3.out.good ⟨rfl, HR3.out⟩ rfl
    rw [if_neg (fun e => hq (hs0.2 e))] at hrun
    have hop := hs1 hq
    have hi : s'.i < U.ts.length := by
      refine word_in6 (x := U.env.word s') ?_ rfl
      intro e
      exact hq (hs0.2 (.inl (by rw [e]; decide)))
    rw [← hop] at hrun
    cases h2 : U.env.run k (.bin (lv + 1)) s'.adv with
    | none => rw [h2] at hrun; cases hrun
    | some r1 =>
    rw [h2, Option.bind_some] at hrun
    obtain ⟨op, hope⟩ : ∃ op, op = signP lv (U.env.word s') := ⟨_, rfl⟩
    rw [← hope] at hrun ⊢
    have d0 : ((op : Int) != 0) = true := by rw [hope]; simpa using hq
    have d1 : ((op : Int) == 0) = false := by rw [hope]; simpa using hq
    have HA := Lib.hid (ahead6 U HU.out s' xs l)
    have HA2 : Hid (∀ W, RAt U W s' (xs ++ l) → Calls Tryz.prog 85 #[.pointer (some ⟨U.W0.heap.size, 0, none⟩), .int .i64 (m : Int), .int .i64 (op : Int)] W (Good6 U s'.adv (xs ++ ((op : Int), 0) :: l))) := Lib.hid (fun W h => by
      rw [HM.out]
      exact HA.out W h hi (by rw [List.length_append]; exact hxl) hl op)
    have hJ := fun W (h : RAt U W s'.adv (xs ++ ((op : Int), 0) :: l)) => HB.out k (by omega) s'.adv W _ r1 h (by rw [List.length_append]; simp [St.adv]; omega) h2
    have hx2 : xs.length + (((op : Int), 0) :: l).length + r1.1.length ≤ r1.2.i := run_grow h2 (by simp [Go6.base, St.adv]; omega)
    have HX2 := Lib.hid hx2
    have HMs : Hid (∀ W ys, RAt U W r1.2 ys → leftP U W < U.ts.length - s'.i) := Lib.hid (fun W ys h => by
      have f := (run_fine U.env _ _ _ _ h2).later.le
      rw [left_eq h]
      have : s'.i + 1 ≤ r1.2.i := f
      omega)
    have HM0 := Lib.hid (left_eq R)
    by_cases g2 : r1.2.err = 0
    case neg =>
      have HS : Hid (r.2 = r1.2) := Lib.hid (by
        split at hrun
        · injection hrun with hrun
          rw [← hrun]
        · exact run_bad hrun g2)
      have HC1 := Lib.hid (fun W h => outR_bad (hJ W h) g2)
      have he := g2
      clear hJ hx2 g2 h2 hi hop hq hs0 hs1 hrun hope HA hl hxl hk R
      go_wp2_with (first | (go_at_call 85; refine (HA2.out _ HR3.out).mono ?_; rintro e w3 ⟨rfl, R3⟩) | (go_at_call 83; refine (HC1.out _ R3).mono ?_; rintro e wb ⟨rfl, hbad⟩))
      exact ⟨rfl, OutR.of_bad he (show Bad6 U _ _ _ from ⟨rfl, hbad⟩) (by first | exact HS.out | rfl)⟩
    have HC1 := Lib.hid (fun W h => outR_good (hJ W h) g2)
    by_cases h4 : lv = 4
    · rw [if_pos h4] at hrun
      injection hrun with hrun
      have HE : Hid (r.2.err = 0) := Lib.hid (by rw [← hrun]; exact g2)
      have HRun := Lib.hid hrun
      have d3 : ((q : Int) == 3) = true := by have := HZ.out; simp; omega
      clear hJ hx2 g2 h2 hi hop hq hs0 hs1 hrun hope HA hl hxl hk R
      go_wp2_with (first | (go_at_call 85; refine (HA2.out _ HR3.out).mono ?_; rintro e w3 ⟨rfl, R3⟩) | (go_at_call 83; refine (HC1.out _ R3).mono ?_; rintro e w4 ⟨rfl, R4⟩))
      (try simp only [Exit.inBlock, Exit.then])
      refine bodyPost_ret (results_none rfl _ _ _) rfl ?_
      have := HRun.out
      subst this
      exact OutR.of_good HE.out ⟨rfl, R4⟩ (by simp)
    · rw [if_neg h4] at hrun
      have HRun := Lib.hid hrun
      have d3 : ((q : Int) == 3) = false := by have := HZ.out; simp; omega
      clear hJ hx2 g2 h2 hi hop hq hs0 hs1 hrun hope HA hl hxl R
      go_wp2_with (first | (go_at_call 85; refine (HA2.out _ HR3.out).mono ?_; rintro e w3 ⟨rfl, R3⟩) | (go_at_call 83; refine (HC1.out _ R3).mono ?_; rintro e w4 ⟨rfl, R4⟩) | (go_at_call 107; refine (HSg.out _ _ _ R4).mono ?_; rintro e w5 ⟨rfl, hb5⟩; have R5 := R4.far hb5))
      go_roundw
      case rel =>
        refine ⟨k, ((op : Int), 0) :: (l ++ r1.1), r1.2, rfl, by omega, by simp, ?_, ?_, HRun.out⟩
        · have := HX2.out
          simp at this ⊢
          omega
        · have := R5
          simp at this ⊢
          exact this
      case measure => rw [HM0.out]; exact HMs.out _ _ R5
/-- what all of the reader's functions do -/
structure AllP (U : Sup) (n : Nat) : Prop where
  choice : CallsP U n .choice
  unary : CallsP U n .unary
  prim : CallsP U n .prim
  bin : ∀ lv, 2 ≤ lv → lv ≤ 7 → CallsP U n (.bin lv)
theorem callsP_zero (U : Sup) (g : Go6) : CallsP U 0 g := by
  intro s w xs r _ _ hr
  unfold Env.run at hr
  cases hr
theorem allP (U : Sup) (hU : U.Ok) (n : Nat) : AllP U n := by
  induction n using Nat.strongRecOn with
  | ind n ih =>
    cases n with
    | zero => exact ⟨callsP_zero _ _, callsP_zero _ _, callsP_zero _ _, fun _ _ _ => callsP_zero _ _⟩
    | succ n =>
      have hn := ih n (Nat.lt_succ_self n)
      exact ⟨choiceQ_any U hU n (hn.bin 2 (by omega) (by omega)) hn.choice, unaryQ_any U hU n hn.unary hn.prim, primQ_any U hU n hn.choice, fun lv h2 h => joinQ_any U hU n lv h2 h hn.unary (fun h6 m hm => (ih m (by omega)).bin (lv + 1) (by omega) (by omega))⟩
theorem choiceQ (U : Sup) (hU : U.Ok) (s : St) (w : World) (h : RAt U w s []) :
    Calls Tryz.prog 41 #[.pointer (some ⟨U.W0.heap.size, 0, none⟩)] w (OutR U [] (U.env.read .choice s)) := by
  obtain ⟨n, hn⟩ := read_some U.env .choice s
  exact (allP U hU n).choice s w [] _ h (Nat.zero_le _) hn
end Go.Proofs.YtokmehjofboflaaGreatDoor
