/- The recursion of the program's reader: choice, unary, primary, joined. -/
import Derived.Test.YtdbahiepihkagaaGreatDoorExprRt
import Derived.Deep.RegionHeld3
namespace Go.Proofs.YtdbahiepihkagaaGreatDoor
set_option maxRecDepth 100000
open Go.RowKit

set_option maxHeartbeats 1000000 in
theorem sindex_any (a : Option Addr) (c : Nat) (ns : List Bytes) (l : Bytes) (w : World) (hN : NamesAt w a ns) (hn : ns.length ≤ 1000000) :
    Calls Tryz.prog 127 #[.slice a ns.length c, .string (mkS l)] w fun e w' => e = .returned (.int .i64 (idxI ns l)) ∧ w' = w := by
  have HX := Lib.hid hN
  have HF := Lib.hid (fun (k : Nat) (h : k < ns.length) => idx_first (l := l) (k := k) h)
  have HO := Lib.hid (idx_none (ns := ns) (l := l))
  have HSame := Lib.hid (mkS_same l)
  have HNot := Lib.hid (fun (x : Bytes) (h : l ≠ x) => mkS_not h)
  obtain ⟨m, hm⟩ : ∃ m, m = ns.length := ⟨_, rfl⟩
  have HM := Lib.hid hm
  obtain ⟨z, hz⟩ : ∃ z, z = idxI ns l := ⟨_, rfl⟩
  have HZ := Lib.hid hz
  rw [← hz, ← hm]
  rw [← hm] at hn
  clear hz hm hN
  go_enter Tryz.func127, Tryz.ntmps127
  go_wp2
  go_loop [8] (fun t => ∃ k : Nat, t = .int .i64 k ∧ k ≤ m ∧ (∀ j, j < k → ns.getD j [] ≠ l)) (fun t => m - (intOf t).toNat)
  case atStart => exact ⟨0, rfl, Nat.zero_le _, (fun j h => by omega)⟩
  case round =>
    obtain ⟨k, rfl, hk, hlow⟩ := hrel
    have HL := Lib.hid hlow
    clear hlow
    by_cases hlt : k < m
    · obtain ⟨b, o, rfl, hb, hc⟩ := HX.out.row (by rw [← HM.out]; omega)
      have hcell := hc k (by rw [← HM.out]; exact hlt)
      clear hc
      obtain ⟨x, hx⟩ : ∃ x, x = ns.getD k [] := ⟨_, rfl⟩
      rw [← hx] at hcell
      have HXk := Lib.hid hx
      clear hx
      have q0 : (k : Int) < (m : Int) := by omega
      by_cases he : x = l
      · subst he
        have hz : z = k := by rw [HZ.out]; exact HF.out k (by rw [← HM.out]; exact hlt) HL.out HXk.out.symm
        have hbeq := HSame.out
        go_wp2
        go_ret
        exact ⟨by first | rfl | (rw [hz]; rfl), rfl⟩
      · have hbeq := HNot.out x (fun e => he e.symm)
        go_wp2
        go_round
        case rel =>
          refine ⟨k + 1, by go_num, by omega, fun j hj => ?_⟩
          rcases Nat.lt_or_ge j k with h | h
          · exact HL.out j h
          · obtain rfl : j = k := by omega
            rw [← HXk.out]
            exact he
        case measure => simp [intOf]; omega
    · have hz : z = -1 := by
        rw [HZ.out]
        exact HO.out (fun j hj => HL.out j (by rw [← HM.out] at hj; omega))
      have q0 : ¬ ((k : Int) < (m : Int)) := by omega
      go_wp2
      go_ret
      exact ⟨by first | rfl | (rw [hz]; rfl), rfl⟩
set_option maxHeartbeats 1000000 in
theorem scont_any (a : Option Addr) (c : Nat) (ns : List Bytes) (l : Bytes) (w : World) (hN : NamesAt w a ns) (hn : ns.length ≤ 1000000) :
    Calls Tryz.prog 59 #[.slice a ns.length c, .string (mkS l)] w fun e w' => e = .returned (.bool (decide (0 ≤ idxI ns l))) ∧ w' = w := by
  have HI := Lib.hid (sindex_any a c ns l w hN hn)
  clear hN hn
  generalize idxI ns l = z at *
  go_enter Tryz.func59, Tryz.ntmps59
  go_wp2_with (go_at_call 127; refine HI.out.mono ?_; rintro e w1 ⟨rfl, rfl⟩)
  go_ret
  exact ⟨by first | rfl | (congr 1), rfl⟩
set_option maxHeartbeats 1000000 in
theorem goodP_any (a : Option Addr) (c : Nat) (ns : List Bytes) (w : World) (hN : NamesAt w a ns) (hc : ns.length ≤ c) (hn : ns.length ≤ 1000000) :
    Calls Tryz.prog 33 #[.slice a ns.length c] w fun e w' => e = .returned (.bool (goodF ns)) ∧ w' = w := by
  have HX := Lib.hid hN
  have HY := Lib.hid (good_yes (ns := ns))
  have HO := Lib.hid (fun (i : Nat) (h : i < ns.length) => good_no (ns := ns) h)
  have HL := Lib.hid (good_long (ns := ns))
  obtain ⟨m, hm⟩ : ∃ m, m = ns.length := ⟨_, rfl⟩
  have HM := Lib.hid hm
  obtain ⟨z, hz⟩ : ∃ z, z = goodF ns := ⟨_, rfl⟩
  have HZ := Lib.hid hz
  rw [← hz, ← hm]
  rw [← hm] at hn hc
  clear hz hm hN
  by_cases h6 : 6 < m
  · have hz : z = false := by rw [HZ.out]; exact HL.out (by rw [← HM.out]; exact h6)
    subst hz
    have q : (6 : Int) < (m : Int) := by omega
    go_enter Tryz.func33, Tryz.ntmps33
    go_wp2
    go_ret
    exact ⟨rfl, rfl⟩
  have q : ¬ ((6 : Int) < (m : Int)) := by omega
  go_enter Tryz.func33, Tryz.ntmps33
  go_wp2
  go_loop [10] (fun t => ∃ k : Nat, t = .int .i64 k ∧ k ≤ m ∧ (∀ j, j < k → nameF (ns.getD j []) = true ∧ idxI (ns.take j) (ns.getD j []) < 0)) (fun t => m - (intOf t).toNat)
  case atStart => exact ⟨0, rfl, Nat.zero_le _, (fun j h => by omega)⟩
  case round =>
    obtain ⟨k, rfl, hk, hlow⟩ := hrel
    have HLow := Lib.hid hlow
    clear hlow
    by_cases hlt : k < m
    · obtain ⟨b, o, rfl, hb, hcc⟩ := HX.out.row (by rw [← HM.out]; omega)
      have hcell := hcc k (by rw [← HM.out]; exact hlt)
      clear hcc
      obtain ⟨x, hx⟩ : ∃ x, x = ns.getD k [] := ⟨_, rfl⟩
      rw [← hx] at hcell
      have HXk := Lib.hid hx
      clear hx
      have q0 : (k : Int) < (m : Int) := by omega
      have q1 : (k : Int) ≤ (c : Int) := by omega
      have HC : Hid (∀ c', Calls Tryz.prog 59 #[.slice (some ⟨b, o, none⟩) k c', .string (mkS x)] w fun e w' => e = .returned (.bool (decide (0 ≤ idxI (ns.take k) x))) ∧ w' = w) := Lib.hid (fun c' => by
        have e : (ns.take k).length = k := by rw [List.length_take]; have := HM.out; omega
        have := scont_any (some ⟨b, o, none⟩) c' (ns.take k) x w (HX.out.take k) (by omega)
        rwa [e] at this)
      have HBad : Hid (nameF x = false ∨ 0 ≤ idxI (ns.take k) x → z = false) := Lib.hid (fun h => by
        rw [HZ.out]
        exact HO.out k (by rw [← HM.out]; exact hlt) (by rw [← HXk.out]; exact h))
      have HStep : Hid (nameF x = true → idxI (ns.take k) x < 0 → ∀ j, j < k + 1 → nameF (ns.getD j []) = true ∧ idxI (ns.take j) (ns.getD j []) < 0) := Lib.hid (fun h1 h2 j hj => by
        rcases Nat.lt_or_ge j k with h | h
        · exact HLow.out j h
        · obtain rfl : j = k := by omega
          rw [← HXk.out]
          exact ⟨h1, h2⟩)
      generalize idxI (ns.take k) x = q at HC HBad HStep
      have hnm := fun W => name_any (mkS x) W
      rw [mkS_list] at hnm
      have HNM := Lib.hid hnm
      clear hnm HXk
      cases hf : nameF x with
      | false =>
        rw [hf] at HNM
        have hz := HBad.out (.inl hf)
        subst hz
        go_wp2_with (first | (go_at_call 58; refine (HNM.out _).mono ?_; rintro e w1 ⟨rfl, rfl⟩) | (go_at_call 59; refine (HC.out _).mono ?_; rintro e w2 ⟨rfl, rfl⟩))
        go_ret
        exact ⟨rfl, rfl⟩
      | true =>
        rw [hf] at HNM
        by_cases hq : 0 ≤ q
        · have hz := HBad.out (.inr hq)
          subst hz
          rw [decide_eq_true hq] at HC
          go_wp2_with (first | (go_at_call 58; refine (HNM.out _).mono ?_; rintro e w1 ⟨rfl, rfl⟩) | (go_at_call 59; refine (HC.out _).mono ?_; rintro e w2 ⟨rfl, rfl⟩))
          go_ret
          exact ⟨rfl, rfl⟩
        · rw [decide_eq_false hq] at HC
          go_wp2_with (first | (go_at_call 58; refine (HNM.out _).mono ?_; rintro e w1 ⟨rfl, rfl⟩) | (go_at_call 59; refine (HC.out _).mono ?_; rintro e w2 ⟨rfl, rfl⟩))
          go_round
          case rel => exact ⟨k + 1, by go_num, by omega, HStep.out hf (by omega)⟩
          case measure => simp [intOf]; omega
    · have hz : z = true := by
        rw [HZ.out]
        exact HY.out (by rw [← HM.out]; omega) (fun j hj => HLow.out j (by rw [← HM.out] at hj; omega))
      have q0 : ¬ ((k : Int) < (m : Int)) := by omega
      go_wp2
      go_ret
      exact ⟨by first | rfl | (rw [hz]; rfl), rfl⟩
end Go.Proofs.YtdbahiepihkagaaGreatDoor
namespace Go.Proofs.YtdbahiepihkagaaGreatDoor
set_option maxRecDepth 100000
open Go.RowKit

/-- what a call does that reads o: it returns or panics -/
def OutR (U : Sup) (xs : List (Int × Int)) (o : Out) (e : Ending) (w' : World) : Prop := (o.2.err = 0 ∧ Good6 U o.2 (xs ++ o.1) e w') ∨ (o.2.err ≠ 0 ∧ Bad6 U o.2 e w')
set_option maxHeartbeats 1000000 in
theorem varQ_any (U : Sup) (hU : U.Ok) (s : St) (xs : List (Int × Int)) (w : World) (h : RAt U w s xs) (hx : xs.length ≤ 100000) (hn : nameF (U.env.word s) = true) (op : Int) :
    Calls Tryz.prog 188 #[.pointer (some ⟨U.W0.heap.size, 0, none⟩), .int .i64 op] w (OutR U xs (U.env.var op s)) := by
  have HW := Lib.hid (fun W (hb : Below w.heap.size w W) => wordQ_any U hU s xs W (h.far hb))
  have HI := Lib.hid (fun W (hb : Below w.heap.size w W) => sindex_any U.na U.nc U.ns (U.env.word s) W (hU.names.below (h.far hb).bel rfl) (by have := good_few hU.good; omega))
  have HC := Lib.hid (fun W (hb : Below w.heap.size w W) => (h.far hb).c2)
  have hi : s.i < U.ts.length := word_in6 (x := U.env.word s) (by intro e; rw [e] at hn; cases hn) rfl
  have HF := Lib.hid (fun W (hb : Below w.heap.size w W) => fail_bad6 U hU s xs W (h.far hb) 5)
  have HT := Lib.hid (fun W (hb : Below w.heap.size w W) (a : Int) => takeQ_any U hU s xs W (h.far hb) hi hx op a)
  have hc := h.c2
  have hg := h.good
  have hv : U.env.var op s = match idxN U.ns (U.env.word s) with
    | none => ([], U.env.fail s 5)
    | some x => ([(op, (x : Int))], s.adv) := by
    show (if nameF (U.env.word s) = false then ([], U.env.fail s 4) else _) = _
    rw [if_neg (by rw [hn]; decide)]
    rfl
  rw [hv]
  have hidx := idx_cases U.ns (U.env.word s)
  have hbr := Below.refl w.heap.size w
  have hf5 := fail_err U.env s (e := 5) (by decide)
  unfold Good6 Bad6 at *
  clear h hU hn hi hv hx
  generalize hpb : U.W0.heap.size = pb at *
  unfold OutR Good6 Bad6
  rw [hpb]
  rcases hidx with ⟨h1, h2⟩ | ⟨x, h1, h2⟩
  · rw [h1]
    rw [h2] at HI
    clear HT h1 h2
    generalize U.ns.length = m at *
    generalize mkS (U.env.word s) = Y at *
    generalize U.env.fail s 5 = s5 at *
    go_enter Tryz.func188, Tryz.ntmps188
    go_wp2
    go_region_held3 (fun w' => w'.cell? ⟨pb, 2, none⟩ = some (.slice U.na m U.nc) ∧ Below w.heap.size w w') (first | exact ⟨HC.out _ hb1, hb1⟩ | exact ⟨hc, belDraws hbr _⟩ | exact ⟨hc, hbr⟩) ((first | (go_at_call 64; refine (HW.out _ (by first | exact hbr | exact belDraws hbr _)).mono ?_; rintro e w1 ⟨rfl, hb10⟩; have hb1 := (show Below w.heap.size w w1 from by first | exact hb10 | exact (belDraws hbr _).trans hb10)) | (go_at_call 127; refine (HI.out _ (by assumption)).mono ?_; rintro e w2 ⟨rfl, rfl⟩)))
    go_wp2_with (go_at_call 62; refine (HF.out _ (by assumption)).mono ?_; rintro e w3 ⟨rfl, h3⟩)
    exact ⟨rfl, .inr ⟨hf5, rfl, h3⟩⟩
  · rw [h1]
    rw [h2] at HI
    have q0 : ¬ ((x : Int) < 0) := by omega
    clear HF h1 h2 hf5
    generalize U.ns.length = m at *
    generalize mkS (U.env.word s) = Y at *
    go_enter Tryz.func188, Tryz.ntmps188
    go_wp2
    go_region_held3 (fun w' => w'.cell? ⟨pb, 2, none⟩ = some (.slice U.na m U.nc) ∧ Below w.heap.size w w') (first | exact ⟨HC.out _ hb1, hb1⟩ | exact ⟨hc, belDraws hbr _⟩ | exact ⟨hc, hbr⟩) ((first | (go_at_call 64; refine (HW.out _ (by first | exact hbr | exact belDraws hbr _)).mono ?_; rintro e w1 ⟨rfl, hb10⟩; have hb1 := (show Below w.heap.size w w1 from by first | exact hb10 | exact (belDraws hbr _).trans hb10)) | (go_at_call 127; refine (HI.out _ (by assumption)).mono ?_; rintro e w2 ⟨rfl, rfl⟩)))
    go_wp2_with (go_at_call 171; refine (HT.out _ (by assumption) _).mono ?_; rintro e w3 ⟨rfl, h3⟩)
    go_end0
    exact .inl ⟨hg, rfl, h3⟩
end Go.Proofs.YtdbahiepihkagaaGreatDoor
namespace Go.Proofs.YtdbahiepihkagaaGreatDoor
set_option maxRecDepth 100000
open Go.RowKit

theorem outR_good {U : Sup} {xs : List (Int × Int)} {r : Out} {k : FuncId} {args : Array Value} {w : World} (h : Calls Tryz.prog k args w (OutR U xs r)) (he : r.2.err = 0) : Calls Tryz.prog k args w (Good6 U r.2 (xs ++ r.1)) :=
  h.mono fun e w' hh => by
    rcases hh with ⟨_, hh⟩ | ⟨k, _⟩
    · exact hh
    · exact absurd he k
theorem outR_bad {U : Sup} {xs : List (Int × Int)} {r : Out} {k : FuncId} {args : Array Value} {w : World} (h : Calls Tryz.prog k args w (OutR U xs r)) (he : r.2.err ≠ 0) : Calls Tryz.prog k args w (Bad6 U r.2) :=
  h.mono fun e w' hh => by
    rcases hh with ⟨k, _⟩ | ⟨_, hh⟩
    · exact absurd k he
    · exact hh
theorem OutR.of_good {U : Sup} {xs zs : List (Int × Int)} {r : Out} {e : Ending} {w' : World} (he : r.2.err = 0) (h : Good6 U r.2 zs e w') (hz : zs = xs ++ r.1) : OutR U xs r e w' := .inl ⟨he, hz ▸ h⟩
theorem OutR.of_bad {U : Sup} {xs : List (Int × Int)} {r : Out} {s : St} {e : Ending} {w' : World} (he : s.err ≠ 0) (h : Bad6 U s e w') (hs : r.2 = s) : OutR U xs r e w' := .inr ⟨by rw [hs]; exact he, by rw [hs]; exact h⟩
/-- what a call does for a goal -/
def CallsP (U : Sup) (n : Nat) (g : Go6) : Prop := ∀ (s : St) (w : World) (xs : List (Int × Int)) (r : Out), RAt U w s xs → xs.length ≤ s.i → U.env.run n g s = some r → match g with
  | .choice => Calls Tryz.prog 35 #[.pointer (some ⟨U.W0.heap.size, 0, none⟩)] w (OutR U xs r)
  | .bin lv => ∀ z : Int, z + 1 = (lv : Int) → Calls Tryz.prog 63 #[.pointer (some ⟨U.W0.heap.size, 0, none⟩), .int .i64 z] w (OutR U xs r)
  | .unary => Calls Tryz.prog 129 #[.pointer (some ⟨U.W0.heap.size, 0, none⟩)] w (OutR U xs r)
  | .prim => Calls Tryz.prog 170 #[.pointer (some ⟨U.W0.heap.size, 0, none⟩)] w (OutR U xs r)
  | .more _ _ => True
theorem run_grow {U : Sup} {n : Nat} {g : Go6} {s : St} {r : Out} (h : U.env.run n g s = some r) {b : Nat} (hb : b + g.base ≤ s.i) : b + r.1.length ≤ r.2.i := by
  have f := (run_fine U.env n g s r h).len
  omega
theorem RAt.few6 {U : Sup} (hU : U.Ok) {w : World} {s : St} {xs ys : List (Int × Int)} (h : RAt U w s ys) (hx : xs.length ≤ s.i) : xs.length ≤ 100000 := by
  have := h.low
  have := hU.few
  omega
theorem word_top {U : Sup} {s : St} {x : UInt8} {l : Bytes} (h : U.env.word s = x :: l) : s.i < U.ts.length := word_in6 (by simp) h
theorem bad_word {U : Sup} {s : St} (h : s.err ≠ 0) : U.env.word s = [] := word_bad h
theorem want_bad {U : Sup} {x : Bytes} {s : St} (h : s.err ≠ 0) (hx : x ≠ []) : U.env.want x s = s := by
  unfold Env.want
  rw [if_neg (by rw [bad_word h]; exact fun e => hx e.symm), fail_bad h]
theorem expect_good (U : Sup) (hU : U.Ok) (s : St) (xs : List (Int × Int)) (w : World) (h : RAt U w s xs) (x : UInt8) (X : ByteArray) (hX : mkS [x] = X) (he : (U.env.want [x] s).err = 0) :
    Calls Tryz.prog 66 #[.pointer (some ⟨U.W0.heap.size, 0, none⟩), .string X] w (Good6 U (U.env.want [x] s) xs) := by
  have := expectQ_any U hU s xs w h x X hX
  rwa [if_pos he] at this
theorem expect_bad (U : Sup) (hU : U.Ok) (s : St) (xs : List (Int × Int)) (w : World) (h : RAt U w s xs) (x : UInt8) (X : ByteArray) (hX : mkS [x] = X) (he : (U.env.want [x] s).err ≠ 0) :
    Calls Tryz.prog 66 #[.pointer (some ⟨U.W0.heap.size, 0, none⟩), .string X] w (Bad6 U (U.env.want [x] s)) := by
  have := expectQ_any U hU s xs w h x X hX
  rwa [if_neg he] at this
theorem ahead6 (U : Sup) (hU : U.Ok) (s : St) (xs l : List (Int × Int)) (w : World) (h : RAt U w s (xs ++ l)) (hi : s.i < U.ts.length) (hx : (xs ++ l).length ≤ s.i) (hl : l ≠ []) (op : Int) :
    Calls Tryz.prog 65 #[.pointer (some ⟨U.W0.heap.size, 0, none⟩), .int .i64 (xs.length : Int), .int .i64 op] w (Good6 U s.adv (xs ++ (op, 0) :: l)) := by
  have hp : xs.length < (xs ++ l).length := by
    rw [List.length_append]
    have := List.length_pos_iff.2 hl
    omega
  have := aheadQ_any U hU s (xs ++ l) w h hi (h.few6 hU hx) xs.length hp op
  rw [List.take_left' rfl, List.drop_left' rfl] at this
  exact this

theorem brackQ_any (U : Sup) (hU : U.Ok) (n : Nat) (hC : CallsP U n .choice) (s : St) (w : World) (xs : List (Int × Int)) (y : Out) (h : RAt U w s xs) (hx : xs.length ≤ s.i) (hr : U.env.run n .choice (U.env.want [40] s) = some y) :
    Calls Tryz.prog 190 #[.pointer (some ⟨U.W0.heap.size, 0, none⟩)] w (OutR U xs (y.1, U.env.want [41] y.2)) := by
  by_cases h1 : (U.env.want [40] s).err = 0
  case neg =>
    have HS : Hid (((y.1, U.env.want [41] y.2) : Out).2 = U.env.want [40] s) := Lib.hid (by
      have e := run_bad hr h1
      show U.env.want [41] y.2 = _
      rw [e, want_bad h1 (by simp)])
    have HX := Lib.hid (expect_bad U hU s xs w h 40 ⟨#[40]⟩ rfl h1)
    have he := h1
    clear h hU hC hr hx h1

    go_enter Tryz.func190, Tryz.ntmps190
    go_wp2_with (first
      | (go_at_call 66; refine (HX.out).mono ?_; rintro e wb ⟨rfl, hbad⟩))
    exact ⟨rfl, OutR.of_bad he (show Bad6 U _ _ _ from ⟨rfl, hbad⟩) (by first | exact HS.out | rfl)⟩
  obtain ⟨hw40, e40⟩ := want_good (V := U.env) h1
  have hi := word_top hw40
  have HX := Lib.hid (expect_good U hU s xs w h 40 ⟨#[40]⟩ rfl h1)
  have hx1 : xs.length ≤ (U.env.want [40] s).i := by rw [e40]; show _ ≤ s.i + 1; omega
  by_cases h2 : y.2.err = 0
  case neg =>
    have HS : Hid (((y.1, U.env.want [41] y.2) : Out).2 = y.2) := Lib.hid (want_bad h2 (by simp))
    have HC := Lib.hid (fun W (h : RAt U W (U.env.want [40] s) xs) => outR_bad (hC _ W xs y h hx1 hr) h2)
    have he := h2
    clear h hU hC hr hx h1 h2 hw40 e40 hi hx1
    go_enter Tryz.func190, Tryz.ntmps190
    go_wp2_with (first
      | (go_at_call 66; refine (HX.out).mono ?_; rintro e w1 ⟨rfl, R1⟩)
      | (go_at_call 35; refine (HC.out _ R1).mono ?_; rintro e wb ⟨rfl, hbad⟩))
    exact ⟨rfl, OutR.of_bad he (show Bad6 U _ _ _ from ⟨rfl, hbad⟩) (by first | exact HS.out | rfl)⟩
  have HC := Lib.hid (fun W (h : RAt U W (U.env.want [40] s) xs) => outR_good (hC _ W xs y h hx1 hr) h2)
  by_cases h3 : (U.env.want [41] y.2).err = 0
  case neg =>
    have HS : Hid (((y.1, U.env.want [41] y.2) : Out).2 = U.env.want [41] y.2) := Lib.hid rfl
    have HX2 := Lib.hid (fun W (h : RAt U W y.2 (xs ++ y.1)) => expect_bad U hU y.2 _ W h 41 ⟨#[41]⟩ rfl h3)
    have he := h3
    clear h hU hC hr hx h1 h2 h3 hw40 e40 hi hx1
    go_enter Tryz.func190, Tryz.ntmps190
    go_wp2_with (first
      | (go_at_call 66; first | ((with_reducible refine HX.out.mono ?_); rintro e w1 ⟨rfl, R1⟩) | ((with_reducible refine (HX2.out _ R2).mono ?_); rintro e wb ⟨rfl, hbad⟩))
      | (go_at_call 35; refine (HC.out _ R1).mono ?_; rintro e w2 ⟨rfl, R2⟩))
    exact ⟨rfl, OutR.of_bad he (show Bad6 U _ _ _ from ⟨rfl, hbad⟩) (by first | exact HS.out | rfl)⟩
  have HE : Hid (((y.1, U.env.want [41] y.2) : Out).2.err = 0) := Lib.hid h3
  have HX2 := Lib.hid (fun W (h : RAt U W y.2 (xs ++ y.1)) => expect_good U hU y.2 _ W h 41 ⟨#[41]⟩ rfl h3)
  clear h hU hC hr hx h1 h2 h3 hw40 e40 hi hx1
  go_enter Tryz.func190, Tryz.ntmps190
  go_wp2_with (first
    | (go_at_call 66; first | ((with_reducible refine HX.out.mono ?_); rintro e w1 ⟨rfl, R1⟩) | ((with_reducible refine (HX2.out _ R2).mono ?_); rintro e w3 ⟨rfl, R3⟩))
    | (go_at_call 35; refine (HC.out _ R1).mono ?_; rintro e w2 ⟨rfl, R2⟩))
  go_end0
  exact OutR.of_good HE.out ⟨rfl, R3⟩ rfl
set_option maxHeartbeats 2000000 in
theorem choiceQ_any (U : Sup) (hU : U.Ok) (n : Nat) (hB : CallsP U n (.bin 2)) (hC : CallsP U n .choice) : CallsP U (n + 1) .choice := by
  intro s w xs r h hx hr
  dsimp only
  unfold Env.run at hr
  have HW := Lib.hid (fun s' ys W (h : RAt U W s' ys) => wordQ_any U hU s' ys W h)
  obtain ⟨v, hv, hO⟩ := h.c3
  obtain ⟨va, vc, rfl, _, _⟩ := hO.shape
  cases h1 : U.env.run n (.bin 2) s with
  | none => rw [h1] at hr; cases hr
  | some c =>
  rw [h1, Option.bind_some] at hr
  have hJ := hB s w xs c h hx h1 1 rfl
  have hx1 : xs.length + c.1.length ≤ c.2.i := run_grow h1 (by simp [Go6.base]; exact hx)
  by_cases g1 : c.2.err = 0
  case neg =>
    rw [if_neg (by rw [bad_word g1]; simp)] at hr
    injection hr with hr
    subst hr
    have HS : Hid (c.2 = c.2) := Lib.hid rfl
    have HJ := Lib.hid (outR_bad hJ g1)
    have he := g1
    clear h hU hB hC h1 hJ hx1 g1 hx
    go_enter Tryz.func35, Tryz.ntmps35
    go_wp2_with (first
      | (go_at_call 63; refine (HJ.out).mono ?_; rintro e wb ⟨rfl, hbad⟩))
    exact ⟨rfl, OutR.of_bad he (show Bad6 U _ _ _ from ⟨rfl, hbad⟩) (by first | exact HS.out | rfl)⟩
  have HJ := Lib.hid (outR_good hJ g1)
  by_cases q : U.env.word c.2 = [63]
  case neg =>
    rw [if_neg q] at hr
    injection hr with hr
    subst hr
    have HE := Lib.hid g1
    have hq := mkS_not q
    have hq2 : ((mkS (U.env.word c.2)).toList == [63]) = false := by
      rw [show ([63] : List UInt8) = (mkS [63]).toList by rw [ByteArray.toList_eq, mkS_list]]
      exact hq
    clear h hU hB hC h1 hJ hx1 g1 hx q
    obtain ⟨Y, hY⟩ : ∃ Y, mkS (U.env.word c.2) = Y := ⟨_, rfl⟩
    rw [hY] at hq2
    go_enter Tryz.func35, Tryz.ntmps35
    go_wp2_with (first
      | (go_at_call 63; refine (HJ.out).mono ?_; rintro e w1 ⟨rfl, R1⟩)
      | (go_at_call 64; have HW1 := HW.out _ _ _ R1; rw [hY] at HW1; refine HW1.mono ?_; rintro e w2 ⟨rfl, hb2⟩; have R2 := R1.far hb2))
    go_end0
    exact OutR.of_good HE.out ⟨rfl, R2⟩ rfl
  rw [if_pos q] at hr
  have hi := word_top q
  have hc1 : c.1 ≠ [] := run_some U.env n _ _ _ h1 g1 (fun _ _ e => by injection e)
  have hq : ((⟨#[63]⟩ : ByteArray).toList == (⟨#[63]⟩ : ByteArray).toList) = true := mkS_same [63]
  have hY : mkS (U.env.word c.2) = ⟨#[63]⟩ := by rw [q]; rfl
  have HA := Lib.hid (fun W (h : RAt U W c.2 (xs ++ c.1)) => ahead6 U hU c.2 xs c.1 W h hi (by rw [List.length_append]; exact hx1) hc1 43)
  cases h2 : U.env.run n .choice c.2.adv with
  | none => rw [h2] at hr; cases hr
  | some a =>
  rw [h2, Option.bind_some] at hr
  have hx2 : (xs ++ (43, 0) :: c.1).length ≤ c.2.adv.i := by simp [St.adv]; omega
  have hC1 := fun W (h : RAt U W c.2.adv (xs ++ (43, 0) :: c.1)) => hC _ W _ a h hx2 h2
  have hx3 : (xs ++ (43, 0) :: c.1).length + a.1.length ≤ a.2.i := run_grow h2 (by simpa [Go6.base] using hx2)
  cases h3 : U.env.run n .choice (U.env.want [58] a.2) with
  | none => rw [h3] at hr; cases hr
  | some b =>
  rw [h3, Option.bind_some] at hr
  injection hr with hr
  subst hr
  by_cases g2 : a.2.err = 0
  case neg =>
    have HS : Hid ((((43, 0) :: (c.1 ++ (a.1 ++ b.1)), b.2) : Out).2 = a.2) := Lib.hid (by
      rw [want_bad g2 (by simp)] at h3
      show b.2 = _
      exact run_bad h3 g2)
    have HC1 := Lib.hid (fun W h => outR_bad (hC1 W h) g2)
    have he := g2
    clear h hU hB hC h1 hJ hx1 g1 hx q hi hc1 h2 hx2 hC1 hx3 h3 g2
    go_enter Tryz.func35, Tryz.ntmps35
    go_wp2_with (first
      | (go_at_call 63; refine (HJ.out).mono ?_; rintro e w1 ⟨rfl, R1⟩)
      | (go_at_call 64; have HW1 := HW.out _ _ _ R1; rw [hY] at HW1; refine HW1.mono ?_; rintro e w2 ⟨rfl, hb2⟩; have R2 := R1.far hb2)
      | (go_at_call 65; refine (HA.out _ R2).mono ?_; rintro e w3 ⟨rfl, R3⟩)
      | (go_at_call 35; refine (HC1.out _ R3).mono ?_; rintro e wb ⟨rfl, hbad⟩))
    exact ⟨rfl, OutR.of_bad he (show Bad6 U _ _ _ from ⟨rfl, hbad⟩) (by first | exact HS.out | rfl)⟩
  have HC1 := Lib.hid (fun W h => outR_good (hC1 W h) g2)
  by_cases g3 : (U.env.want [58] a.2).err = 0
  case neg =>
    have HS : Hid ((((43, 0) :: (c.1 ++ (a.1 ++ b.1)), b.2) : Out).2 = U.env.want [58] a.2) := Lib.hid (show b.2 = _ from run_bad h3 g3)
    have HX := Lib.hid (fun W (h : RAt U W a.2 ((xs ++ (43, 0) :: c.1) ++ a.1)) => expect_bad U hU a.2 _ W h 58 ⟨#[58]⟩ rfl g3)
    have he := g3
    clear h hU hB hC h1 hJ hx1 g1 hx q hi hc1 h2 hx2 hC1 hx3 h3 g2 g3
    go_enter Tryz.func35, Tryz.ntmps35
    go_wp2_with (first
      | (go_at_call 63; refine (HJ.out).mono ?_; rintro e w1 ⟨rfl, R1⟩)
      | (go_at_call 64; have HW1 := HW.out _ _ _ R1; rw [hY] at HW1; refine HW1.mono ?_; rintro e w2 ⟨rfl, hb2⟩; have R2 := R1.far hb2)
      | (go_at_call 65; refine (HA.out _ R2).mono ?_; rintro e w3 ⟨rfl, R3⟩)
      | (go_at_call 35; refine (HC1.out _ R3).mono ?_; rintro e w4 ⟨rfl, R4⟩)
      | (go_at_call 66; refine (HX.out _ R4).mono ?_; rintro e wb ⟨rfl, hbad⟩))
    exact ⟨rfl, OutR.of_bad he (show Bad6 U _ _ _ from ⟨rfl, hbad⟩) (by first | exact HS.out | rfl)⟩
  obtain ⟨hw58, e58⟩ := want_good (V := U.env) g3
  have HX := Lib.hid (fun W (h : RAt U W a.2 ((xs ++ (43, 0) :: c.1) ++ a.1)) => expect_good U hU a.2 _ W h 58 ⟨#[58]⟩ rfl g3)
  have hC2 := fun W (h : RAt U W (U.env.want [58] a.2) ((xs ++ (43, 0) :: c.1) ++ a.1)) => hC _ W _ b h (by rw [e58, List.length_append]; show _ ≤ a.2.i + 1; omega) h3
  by_cases g4 : b.2.err = 0
  case neg =>
    have HS : Hid ((((43, 0) :: (c.1 ++ (a.1 ++ b.1)), b.2) : Out).2 = b.2) := Lib.hid rfl
    have HC2 := Lib.hid (fun W h => outR_bad (hC2 W h) g4)
    have he := g4
    clear h hU hB hC h1 hJ hx1 g1 hx q hi hc1 h2 hx2 hC1 hx3 h3 g2 g3 g4 hw58 e58 hC2
    go_enter Tryz.func35, Tryz.ntmps35
    go_wp2_with (first
      | (go_at_call 63; refine (HJ.out).mono ?_; rintro e w1 ⟨rfl, R1⟩)
      | (go_at_call 64; have HW1 := HW.out _ _ _ R1; rw [hY] at HW1; refine HW1.mono ?_; rintro e w2 ⟨rfl, hb2⟩; have R2 := R1.far hb2)
      | (go_at_call 65; refine (HA.out _ R2).mono ?_; rintro e w3 ⟨rfl, R3⟩)
      | (go_at_call 35; first | ((with_reducible refine (HC1.out _ R3).mono ?_); rintro e w4 ⟨rfl, R4⟩) | ((with_reducible refine (HC2.out _ R5).mono ?_); rintro e wb ⟨rfl, hbad⟩))
      | (go_at_call 66; refine (HX.out _ R4).mono ?_; rintro e w5 ⟨rfl, R5⟩))
    exact ⟨rfl, OutR.of_bad he (show Bad6 U _ _ _ from ⟨rfl, hbad⟩) (by first | exact HS.out | rfl)⟩
  have HE : Hid ((((43, 0) :: (c.1 ++ (a.1 ++ b.1)), b.2) : Out).2.err = 0) := Lib.hid g4
  have HC2 := Lib.hid (fun W h => outR_good (hC2 W h) g4)
  clear h hU hB hC h1 hJ hx1 g1 hx q hi hc1 h2 hx2 hC1 hx3 h3 g2 g3 g4 hw58 e58 hC2
  go_enter Tryz.func35, Tryz.ntmps35
  go_wp2_with (first
    | (go_at_call 63; refine (HJ.out).mono ?_; rintro e w1 ⟨rfl, R1⟩)
    | (go_at_call 64; have HW1 := HW.out _ _ _ R1; rw [hY] at HW1; refine HW1.mono ?_; rintro e w2 ⟨rfl, hb2⟩; have R2 := R1.far hb2)
    | (go_at_call 65; refine (HA.out _ R2).mono ?_; rintro e w3 ⟨rfl, R3⟩)
    | (go_at_call 35; first | ((with_reducible refine (HC1.out _ R3).mono ?_); rintro e w4 ⟨rfl, R4⟩) | ((with_reducible refine (HC2.out _ R5).mono ?_); rintro e w6 ⟨rfl, R6⟩))
    | (go_at_call 66; refine (HX.out _ R4).mono ?_; rintro e w5 ⟨rfl, R5⟩))
  go_end0
  exact OutR.of_good HE.out ⟨rfl, R6⟩ (by simp)
end Go.Proofs.YtdbahiepihkagaaGreatDoor
