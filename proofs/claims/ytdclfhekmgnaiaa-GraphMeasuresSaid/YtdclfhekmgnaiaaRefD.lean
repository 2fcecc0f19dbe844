/- What greatest, Connected, Eccentricity, Diameter, Tree and SameInts of the specification answer; Distances, whatever the graph. -/
import Derived.Test.YtdclfhekmgnaiaaRefC
namespace Go.Proofs.Ytdclfhekmgnaiaa
open Go.RowKit

theorem lenF_nil {G : Gr} {v : Int} (h : ¬ (validB G = true ∧ inB v 0 (G.ps.length - 1) = true)) : lenF G v = 0 := by unfold lenF; rw [if_neg h]
theorem lenF_all {G : Gr} {v : Int} (h : validB G = true ∧ inB v 0 (G.ps.length - 1) = true) : lenF G v = G.ps.length := by unfold lenF; rw [if_pos h]
theorem lenF_le (G : Gr) (v : Int) : lenF G v ≤ 24 := by
  unfold lenF
  split
  · rename_i h
    exact (validB_iff.1 h.1).le
  · omega

set_option maxHeartbeats 400000 in
theorem graphDistances_any (ia pa : Option Addr) (il ic pl pc : Nat) (G : Gr) (v : Int) (w : World) (hG : GraphAt w ia il pa pl G) :
    Calls Try.prog 26 #[.agg #[.slice ia il ic, .slice pa pl pc], .int .i64 v] w fun e w' => (∃ a c, e = .returned (.slice a (lenF G v) c) ∧ ListAt w' a (lenF G v) (distF G v.toNat)) ∧ Below w.heap.size w w' := by
  have Hpl := Lib.hid hG.pl
  cases hv : validB G with
  | false =>
    have Hf := Lib.hid (lenF_nil (G := G) (v := v) (by rw [hv]; simp))
    go_enter Try.func26, Try.ntmps26
    go_wp2_with (go_at_call 15; refine (valid_any _ _ _ _ _ _ G _ (hG.alloc _)).mono ?_; rintro e w1 ⟨rfl, hb1⟩)
    go_ret
    exact ⟨⟨none, 0, by rw [Hf.out]; rfl, .inl Hf.out⟩, ((Below.refl _ _).alloc (Nat.le_refl _) _).trans (hb1.mono (by simp))⟩
  | true =>
    cases hi : inB v 0 (pl - 1) with
    | false =>
      have Hf := Lib.hid (lenF_nil (G := G) (v := v) (by rw [← Hpl.out, hi]; simp))
      go_enter Try.func26, Try.ntmps26
      go_wp2_with (first | (go_at_call 15; refine (valid_any _ _ _ _ _ _ G _ (hG.alloc _)).mono ?_; rintro e w1 ⟨rfl, hb1⟩; have hbx : Below (w.heap.size + 1) (w.alloc (.cells #[.slice ia il ic, .slice pa pl pc] 25)) w1 := hb1.mono (by simp); have hx0 : w1.cell? ⟨w.heap.size, 0, none⟩ = some (.slice ia il ic) := boxed hbx 0; have hx1 : w1.cell? ⟨w.heap.size, 1, none⟩ = some (.slice pa pl pc) := boxed hbx 1) | (go_at_call 47; refine (has_any _ _ _ _ _ _ _ _).mono ?_; rintro e w2 ⟨rfl, hb2⟩))
      go_ret
      exact ⟨⟨none, 0, by rw [Hf.out]; rfl, .inl Hf.out⟩, (belBox hbx).trans (hb2.mono (belBox hbx).size)⟩
    | true =>
      have hb := inB_true hi
      obtain ⟨d, rfl⟩ : ∃ d : Nat, v = d := ⟨v.toNat, by omega⟩
      have hl := lenF_all (G := G) (v := (d : Int)) ⟨hv, by rw [← Hpl.out]; exact hi⟩
      rw [hl, Int.toNat_natCast, ← Hpl.out]
      refine (distancesOf_any ia pa il ic pl pc G d w hG (validB_iff.1 hv) (by omega)).mono ?_
      rintro e w' ⟨⟨blk, rfl, _, hM⟩, hb⟩
      exact ⟨⟨_, _, rfl, .inr ⟨blk, 0, rfl, hM.1, fun i hi => by rw [Nat.zero_add]; exact hM.2 i hi⟩⟩, hb⟩

set_option maxHeartbeats 400000 in
theorem refDistances_any (ia pa : Option Addr) (il ic pl pc : Nat) (G : Gr) (v : Int) (w : World) (hG : GraphAt w ia il pa pl G) :
    Calls Try.prog 27 #[.agg #[.slice ia il ic, .slice pa pl pc], .int .i64 v] w fun e w' => (∃ a c, e = .returned (.slice a (lenF G v) c) ∧ ListAt w' a (lenF G v) (distF G v.toNat)) ∧ Below w.heap.size w w' := by
  have Hpl := Lib.hid hG.pl
  cases hv : validB G with
  | false =>
    have Hf := Lib.hid (lenF_nil (G := G) (v := v) (by rw [hv]; simp))
    go_enter Try.func27, Try.ntmps27
    go_wp2_with (go_at_call 16; refine (refValid_any _ _ _ _ _ _ G _ (hG.alloc _)).mono ?_; rintro e w1 ⟨rfl, hb1⟩)
    go_ret
    exact ⟨⟨none, 0, by rw [Hf.out]; rfl, .inl Hf.out⟩, ((Below.refl _ _).alloc (Nat.le_refl _) _).trans (hb1.mono (by simp))⟩
  | true =>
    have hp24 : pl ≤ 24 := by have := (validB_iff.1 hv).le; have := Hpl.out; omega
    cases hi : inB v 0 (pl - 1) with
    | false =>
      have Hf := Lib.hid (lenF_nil (G := G) (v := v) (by rw [← Hpl.out, hi]; simp))
      go_enter Try.func27, Try.ntmps27
      go_wp2_with (first | (go_at_call 16; refine (refValid_any _ _ _ _ _ _ G _ (hG.alloc _)).mono ?_; rintro e w1 ⟨rfl, hb1⟩; have hbx : Below (w.heap.size + 1) (w.alloc (.cells #[.slice ia il ic, .slice pa pl pc] 25)) w1 := hb1.mono (by simp); have hx0 : w1.cell? ⟨w.heap.size, 0, none⟩ = some (.slice ia il ic) := boxed hbx 0; have hx1 : w1.cell? ⟨w.heap.size, 1, none⟩ = some (.slice pa pl pc) := boxed hbx 1) | (go_at_call 44; refine (in_any v 0 (pl - 1) _).mono ?_; rintro e w2 ⟨rfl, rfl⟩; rw [hi]))
      go_ret
      exact ⟨⟨none, 0, by rw [Hf.out]; rfl, .inl Hf.out⟩, belBox hbx⟩
    | true =>
      have hb := inB_true hi
      obtain ⟨d, rfl⟩ : ∃ d : Nat, v = d := ⟨v.toNat, by omega⟩
      have hl := lenF_all (G := G) (v := (d : Int)) ⟨hv, by rw [← Hpl.out]; exact hi⟩
      rw [hl, Int.toNat_natCast, ← Hpl.out]
      exact refDistances_in ia pa il ic pl pc G d w hG (validB_iff.1 hv) (by omega)

set_option maxHeartbeats 400000 in
theorem greatest_any (a : Option Addr) (n c : Nat) (f : Nat → Int) (w : World) (hL : ListAt w a n f) (hn : n ≤ 24) (hf : ∀ i, i < n → -1 ≤ f i ∧ f i < 24) :
    Calls Try.prog 53 #[.slice a n c] w fun e w' => e = .returned (.int .i64 (greatF f n)) ∧ w = w' := by
  have HL := Lib.hid hL
  have HF := Lib.hid hf
  clear hL hf
  go_enter Try.func53, Try.ntmps53
  go_wp2
  go_loop [3, 4] (fun r t => ∃ k : Nat, k ≤ n ∧ t = .int .i64 k ∧ r = .int .i64 (mx f k) ∧ ∀ i, i < k → 0 ≤ f i) (fun _ t => n - (intOf t).toNat)
  case atStart => exact ⟨0, Nat.zero_le _, rfl, rfl, fun i hi => absurd hi (by omega)⟩
  case round =>
    obtain ⟨k, hk, rfl, rfl, hall⟩ := hrel
    have Hall := Lib.hid hall
    clear hall
    by_cases hlt : k < n
    · obtain ⟨b, o, rfl, hR⟩ : ∃ b o, a = some ⟨b, o, none⟩ ∧ RowAt w b o n f := by
        rcases HL.out with h | h
        · omega
        · exact h
      have hck := (hR.2 k hlt).1
      have hfk := HF.out k hlt
      have hmx := mx_lt (f := f) (b := 24) (by decide) k (fun i hi => (HF.out i (by omega)).2)
      have hmx2 := mx_low f k
      have Hm : Hid (mx f (k + 1) = max (mx f k) (f k)) := Lib.hid rfl
      clear hR
      by_cases h0 : f k < 0
      · have Hres := Lib.hid (greatF_some hlt h0)
        go_wp2
        go_ret
        exact ⟨ret_int Hres.out.symm, rfl⟩
      · have Hnew : Hid (∀ i, i < k + 1 → 0 ≤ f i) := Lib.hid (fun i hi => by
          by_cases h : i < k
          · exact Hall.out i h
          · rw [show i = k by omega]; omega)
        generalize mx f k = x at *
        obtain ⟨hfk1, hfk2⟩ := hfk
        by_cases hx : f k ≤ x
        all_goals
          go_wp2
          go_round
          case rel => exact ⟨k + 1, by omega, by go_num, by rw [Hm.out]; first | rfl | (congr 1; omega), Hnew.out⟩
          case measure => simp [intOf]; omega
    · have Hres := Lib.hid (greatF_all (f := f) (n := n) (fun i hi => Hall.out i (by omega)))
      go_wp2
      go_ret
      exact ⟨ret_int (by rw [Hres.out, show n = k by omega]), rfl⟩

theorem dist_small {G : Gr} {v : Int} (i : Nat) (hi : i < lenF G v) : -1 ≤ distF G v.toNat i ∧ distF G v.toNat i < 24 := by
  refine ⟨distF_low G _ _, ?_⟩
  unfold lenF at hi
  split at hi
  · rename_i hc
    have hV := validB_iff.1 hc.1
    have := inB_true hc.2
    have := distF_lt hV (s := v.toNat) (v := i) (by omega)
    have := hV.le
    omega
  · omega

set_option maxHeartbeats 400000 in
theorem refEcc_any (ia pa : Option Addr) (il ic pl pc : Nat) (G : Gr) (v : Int) (w : World) (hG : GraphAt w ia il pa pl G) :
    Calls Try.prog 31 #[.agg #[.slice ia il ic, .slice pa pl pc], .int .i64 v] w fun e w' => e = .returned (.int .i64 (eccF G v)) ∧ Below w.heap.size w w' := by
  have He := Lib.hid (great_ecc G v)
  go_enter Try.func31, Try.ntmps31
  go_wp2_with (first | (go_at_call 27; refine (refDistances_any _ _ _ _ _ _ G v _ (hG.alloc _)).mono ?_; rintro e w1 ⟨⟨da, dc, rfl, hLA⟩, hb1⟩; have hbx : Below (w.heap.size + 1) (w.alloc (.cells #[.slice ia il ic, .slice pa pl pc] 25)) w1 := hb1.mono (by simp)) | (go_at_call 53; refine (greatest_any _ _ _ _ _ hLA (lenF_le G v) dist_small).mono ?_; rintro e w2 ⟨rfl, rfl⟩))
  go_ret
  exact ⟨ret_int He.out, belBox hbx⟩

set_option maxHeartbeats 400000 in
theorem refConnected_any (ia pa : Option Addr) (il ic pl pc : Nat) (G : Gr) (w : World) (hG : GraphAt w ia il pa pl G) :
    Calls Try.prog 29 #[.agg #[.slice ia il ic, .slice pa pl pc]] w fun e w' => e = .returned (.bool (connB G)) ∧ Below w.heap.size w w' := by
  have he := great_ecc G 0
  have Hc := Lib.hid (conn_ecc G)
  have hlow := eccF_low G 0
  generalize eccF G 0 = x at *
  by_cases hx : 0 ≤ x
  · have Hc2 : Hid (connB G = true) := Lib.hid (by rw [← Hc.out]; exact decide_eq_true hx)
    go_enter Try.func29, Try.ntmps29
    go_wp2_with (first | (go_at_call 27; refine (refDistances_any _ _ _ _ _ _ G 0 _ (hG.alloc _)).mono ?_; rintro e w1 ⟨⟨da, dc, rfl, hLA⟩, hb1⟩; have hbx : Below (w.heap.size + 1) (w.alloc (.cells #[.slice ia il ic, .slice pa pl pc] 25)) w1 := hb1.mono (by simp)) | (go_at_call 53; refine (greatest_any _ _ _ _ _ hLA (lenF_le G 0) dist_small).mono ?_; rintro e w2 ⟨rfl, rfl⟩; rw [he]))
    go_ret
    exact ⟨ret_bool (by rw [Hc2.out]), belBox hbx⟩
  · have Hc2 : Hid (connB G = false) := Lib.hid (by rw [← Hc.out]; exact decide_eq_false hx)
    go_enter Try.func29, Try.ntmps29
    go_wp2_with (first | (go_at_call 27; refine (refDistances_any _ _ _ _ _ _ G 0 _ (hG.alloc _)).mono ?_; rintro e w1 ⟨⟨da, dc, rfl, hLA⟩, hb1⟩; have hbx : Below (w.heap.size + 1) (w.alloc (.cells #[.slice ia il ic, .slice pa pl pc] 25)) w1 := hb1.mono (by simp)) | (go_at_call 53; refine (greatest_any _ _ _ _ _ hLA (lenF_le G 0) dist_small).mono ?_; rintro e w2 ⟨rfl, rfl⟩; rw [he]))
    go_ret
    exact ⟨ret_bool (by rw [Hc2.out]; exact decide_eq_false (by omega)), belBox hbx⟩

set_option maxHeartbeats 1000000 in
theorem refDiameter_any (ia pa : Option Addr) (il ic pl pc : Nat) (G : Gr) (w : World) (hG : GraphAt w ia il pa pl G) :
    Calls Try.prog 33 #[.agg #[.slice ia il ic, .slice pa pl pc]] w fun e w' => e = .returned (.int .i64 (diamF G)) ∧ Below w.heap.size w w' := by
  have Hpl := Lib.hid hG.pl
  cases hc : connB G with
  | false =>
    have Hf : Hid (diamF G = -1) := Lib.hid (by unfold diamF; rw [hc]; rfl)
    go_enter Try.func33, Try.ntmps33
    go_wp2_with (go_at_call 29; refine (refConnected_any _ _ _ _ _ _ G _ (hG.alloc _)).mono ?_; rintro e w1 ⟨rfl, hb1⟩; rw [hc])
    go_ret
    exact ⟨ret_int Hf.out.symm, ((Below.refl _ _).alloc (Nat.le_refl _) _).trans (hb1.mono (by simp))⟩
  | true =>
    have hp24 : pl ≤ 24 := by have := (connB_iff.1 hc).1.le; have := Hpl.out; omega
    have Hend := Lib.hid (dmF_end hc)
    go_enter Try.func33, Try.ntmps33
    go_wp2_with (go_at_call 29; refine (refConnected_any _ _ _ _ _ _ G _ (hG.alloc _)).mono ?_; rintro e w1 ⟨rfl, hb1⟩; rw [hc]; have hbel0 : Below (w.heap.size + 1) (w.alloc (.cells #[.slice ia il ic, .slice pa pl pc] 25)) w1 := hb1.mono (by simp))
    clear hb1
    go_loopw [3, 4] (fun r t wr => ∃ k : Nat, k ≤ pl ∧ t = .int .i64 k ∧ r = .int .i64 (dmF G k) ∧ Below (w.heap.size + 1) (w.alloc (.cells #[.slice ia il ic, .slice pa pl pc] 25)) wr) (fun _ t _ => pl - (intOf t).toNat)
    case atStart => exact ⟨0, Nat.zero_le _, rfl, rfl, hbel0⟩
    case round =>
      clear hbel0
      obtain ⟨k, hk, rfl, rfl, hbel⟩ := hrel
      have hb0 : wr.cell? ⟨w.heap.size, 0, none⟩ = some (.slice ia il ic) := boxed hbel 0
      have hb1 : wr.cell? ⟨w.heap.size, 1, none⟩ = some (.slice pa pl pc) := boxed hbel 1
      by_cases hlt : k < pl
      · have Hm : Hid (dmF G (k + 1) = max (dmF G k) (eccF G k)) := Lib.hid rfl
        have hd := dmF_low G k
        have he := eccF_low G k
        generalize dmF G k = x at *
        obtain ⟨hd1, hd2⟩ := hd
        by_cases hx : eccF G k ≤ x
        all_goals
          go_wp2_with (go_at_call 31; refine (refEcc_any _ _ _ _ _ _ G k _ (hG.below (belBox hbel))).mono ?_; rintro e w2 ⟨rfl, hb2⟩; have hbel2 := hbel.trans (hb2.mono (Nat.le_trans (by simp) hbel.size)))
          go_roundw
          case rel => exact ⟨k + 1, by omega, by go_num, by rw [Hm.out]; first | rfl | (congr 1; omega), hbel2⟩
          case measure => simp [intOf]; omega
      · go_wp2
        go_ret
        exact ⟨ret_int (by rw [← Hend.out, show k = G.ps.length by have := Hpl.out; omega]), belBox hbel⟩

set_option maxHeartbeats 400000 in
theorem refTree_any (ia pa : Option Addr) (il ic pl pc : Nat) (G : Gr) (w : World) (hG : GraphAt w ia il pa pl G) :
    Calls Try.prog 35 #[.agg #[.slice ia il ic, .slice pa pl pc]] w fun e w' => e = .returned (.bool (treeB G)) ∧ Below w.heap.size w w' := by
  have Hf := Lib.hid (show treeB G = (connB G && (linksF G == nodesF G - 1)) from rfl)
  obtain ⟨h1, h2, h3, h4⟩ := linksF_le G
  cases hc : connB G
  all_goals cases hq : (linksF G == nodesF G - 1)
  all_goals
    rw [hc, hq] at Hf
    go_enter Try.func35, Try.ntmps35
    go_wp2_with (first | (go_at_call 14; refine (refSize_any _ _ _ _ _ _ G _ (hG.alloc _)).mono ?_; rintro e w1 ⟨rfl, hb1⟩; have hbx : Below (w.heap.size + 1) (w.alloc (.cells #[.slice ia il ic, .slice pa pl pc] 25)) w1 := hb1.mono (by simp); have hx0 : w1.cell? ⟨w.heap.size, 0, none⟩ = some (.slice ia il ic) := boxed hbx 0; have hx1 : w1.cell? ⟨w.heap.size, 1, none⟩ = some (.slice pa pl pc) := boxed hbx 1) | (go_at_call 29; refine (refConnected_any _ _ _ _ _ _ G _ (hG.below (belBox hbx))).mono ?_; rintro e w2 ⟨rfl, hb2⟩; rw [hc]))
    go_ret
    exact ⟨ret_bool (by rw [Hf.out]; rfl), (belBox hbx).trans (hb2.mono (belBox hbx).size)⟩

set_option maxHeartbeats 400000 in
theorem sameInts_any (a b : Option Addr) (n c c' : Nat) (f : Nat → Int) (w : World) (hA : ListAt w a n f) (hB : ListAt w b n f) (hn : n ≤ 24) :
    Calls Try.prog 25 #[.slice a n c, .slice b n c'] w fun e w' => e = .returned (.bool true) ∧ Below w.heap.size w w' := by
  have HA := Lib.hid hA
  have HB := Lib.hid hB
  clear hA hB
  have hnn : ((n : Int) != n) = false := by simp
  go_enter Try.func25, Try.ntmps25
  go_wp2
  go_loopw [5] (fun t wr => ∃ k : Nat, k ≤ n ∧ t = .int .i64 k ∧ Below w.heap.size w wr) (fun t _ => n - (intOf t).toNat)
  case atStart => exact ⟨0, Nat.zero_le _, rfl, Below.refl _ _⟩
  case round =>
    obtain ⟨k, hk, rfl, hbel⟩ := hrel
    by_cases hlt : k < n
    · obtain ⟨ab, ao, rfl, hR⟩ : ∃ b o, a = some ⟨b, o, none⟩ ∧ RowAt w b o n f := by
        rcases HA.out with h | h
        · omega
        · exact h
      obtain ⟨bb, bo, rfl, hS⟩ : ∃ b' o, b = some ⟨b', o, none⟩ ∧ RowAt w b' o n f := by
        rcases HB.out with h | h
        · omega
        · exact h
      have hc1 := (hbel.cell (p := ⟨ab, ao + k, none⟩) hR.1).trans (hR.2 k hlt).1
      have hc2 := (hbel.cell (p := ⟨bb, bo + k, none⟩) hS.1).trans (hS.2 k hlt).1
      have hff : (f k != f k) = false := by simp
      have hki : (k : Int) < n := by omega
      clear hR hS
      go_wp2
      go_quiet (fail)
      go_wp2
      go_roundw
      case rel => exact ⟨k + 1, by omega, by go_num, by first | exact hbel | exact belDraws hbel _⟩
      case measure => simp [intOf]; omega
    · go_wp2
      go_ret
      exact ⟨rfl, hbel⟩
end Go.Proofs.Ytdclfhekmgnaiaa
