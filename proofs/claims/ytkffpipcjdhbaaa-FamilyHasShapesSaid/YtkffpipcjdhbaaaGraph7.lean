/- What the functions of package graph answer, seventh part: Distances, Connected, Eccentricity, Diameter. -/
import Derived.Test.YtkffpipcjdhbaaaGraph6
namespace Go.Proofs.Ytkffpipcjdhbaaa
open Go.RowKit

/-- the greatest of f 0 .. f k -/
def maxF (f : Nat → Int) : Nat → Int
  | 0 => f 0
  | k + 1 => max (maxF f k) (f (k + 1))
theorem maxF_ge {f : Nat → Int} {i k : Nat} (h : i ≤ k) : f i ≤ maxF f k := by
  induction k with
  | zero => rw [show i = 0 by omega]; exact Int.le_refl _
  | succ k ih =>
    unfold maxF
    by_cases e : i = k + 1
    · subst e; omega
    · have := ih (by omega); omega
theorem maxF_at (f : Nat → Int) (k : Nat) : ∃ i, i ≤ k ∧ maxF f k = f i := by
  induction k with
  | zero => exact ⟨0, Nat.le_refl _, rfl⟩
  | succ k ih =>
    obtain ⟨i, hi, e⟩ := ih
    unfold maxF
    by_cases h : maxF f k ≤ f (k + 1)
    · exact ⟨k + 1, Nat.le_refl _, by omega⟩
    · exact ⟨i, by omega, by omega⟩
theorem maxF_congr {f g : Nat → Int} {k : Nat} (h : ∀ i, i ≤ k → f i = g i) : maxF f k = maxF g k := by
  induction k with
  | zero => exact h 0 (Nat.le_refl _)
  | succ k ih =>
    unfold maxF
    rw [ih fun i hi => h i (by omega), h (k + 1) (Nat.le_refl _)]

set_option maxHeartbeats 400000 in
theorem max_any (b n c : Nat) (f : Nat → Int) (w : World) (hM : MadeAt w b n f) (h1 : 1 ≤ n) (hn : n ≤ 1000000) :
    Calls Try.prog 76 #[.slice (some ⟨b, 0, none⟩) n c] w fun e w' => e = .returned (.int .i64 (maxF f (n - 1))) ∧ w = w' := by
  have h0 := (hM.2 0 (by omega)).1
  have HM := Lib.hid hM
  clear hM
  have e1 : decide ((n : Int) < 1) = false := by simp; omega
  go_enter Try.func76, Try.ntmps76
  go_wp2
  go_loop [3, 4] (fun r t => ∃ k : Nat, 1 ≤ k ∧ k ≤ n ∧ t = .int .i64 k ∧ r = .int .i64 (maxF f (k - 1))) (fun _ t => n - (intOf t).toNat)
  case atStart => exact ⟨1, Nat.le_refl _, h1, rfl, rfl⟩
  case round =>
    obtain ⟨k, hk1, hk, rfl, rfl⟩ := hrel
    by_cases hlt : k < n
    · have hck := (HM.out.2 k hlt).1
      have Hm : Hid (maxF f k = max (maxF f (k - 1)) (f k)) := Lib.hid (by
        obtain ⟨m, rfl⟩ : ∃ m, k = m + 1 := ⟨k - 1, by omega⟩
        rfl)
      generalize maxF f (k - 1) = x at *
      by_cases hx : f k ≤ x
      all_goals
        go_wp2
        go_round
        case rel => exact ⟨k + 1, by omega, by omega, by go_num, by rw [show k + 1 - 1 = k by omega, Hm.out]; first | rfl | (congr 1; omega)⟩
        case measure => simp [intOf]; omega
    · go_wp2
      go_ret
      exact ⟨ret_int (by rw [show k = n by omega]), rfl⟩

set_option maxHeartbeats 400000 in
theorem index_any (b n c : Nat) (f : Nat → Int) (z : Int) (w : World) (hM : MadeAt w b n f) (hn : n ≤ 1000000) :
    Calls Try.prog 80 #[.slice (some ⟨b, 0, none⟩) n c, .int .i64 z] w fun e w' => (∃ x : Int, e = .returned (.int .i64 x) ∧ (0 ≤ x ↔ ∃ i, i < n ∧ f i = z)) ∧ w = w' := by
  have HM := Lib.hid hM
  clear hM
  go_enter Try.func80, Try.ntmps80
  go_wp2
  go_loop [8] (fun t => ∃ k : Nat, k ≤ n ∧ t = .int .i64 k ∧ ∀ j, j < k → f j ≠ z) (fun t => n - (intOf t).toNat)
  case atStart => exact ⟨0, Nat.zero_le _, rfl, fun j hj => absurd hj (by omega)⟩
  case round =>
    obtain ⟨k, hk, rfl, hno⟩ := hrel
    have Hno := Lib.hid hno
    clear hno
    by_cases hlt : k < n
    · have hck := (HM.out.2 k hlt).1
      by_cases he : z = f k
      · have e1 : (z == f k) = true := by simpa using he
        have He := Lib.hid he
        clear he
        go_wp2
        go_ret
        exact ⟨⟨k, rfl, ⟨fun _ => ⟨k, hlt, He.out.symm⟩, fun _ => by omega⟩⟩, rfl⟩
      · have e1 : (z == f k) = false := by simpa using he
        have He := Lib.hid he
        clear he
        go_wp2
        go_round
        case rel => exact ⟨k + 1, by omega, by go_num, fun j hj => by
          rcases Nat.lt_or_ge j k with h | h
          · exact Hno.out j h
          · rw [show j = k by omega]; exact fun e => He.out e.symm⟩
        case measure => simp [intOf]; omega
    · go_wp2
      go_ret
      exact ⟨⟨-1, rfl, ⟨fun h => by omega, fun ⟨i, hi, e⟩ => absurd e (Hno.out i (by omega))⟩⟩, rfl⟩

open Classical in
noncomputable def hasB (f : Nat → Int) (n : Nat) (z : Int) : Bool := decide (∃ i, i < n ∧ f i = z)
theorem hasB_iff {f : Nat → Int} {n : Nat} {z : Int} : hasB f n z = true ↔ ∃ i, i < n ∧ f i = z := by simp [hasB]
theorem hasB_mkF {f : Nat → Int} {n : Nat} {z : Int} (h : ¬ ∃ i, i < n ∧ f i = z) : hasB f n z = false := by
  unfold hasB
  exact decide_eq_false h

set_option maxHeartbeats 400000 in
theorem contains_any (b n c : Nat) (f : Nat → Int) (z : Int) (w : World) (hM : MadeAt w b n f) (hn : n ≤ 1000000) :
    Calls Try.prog 77 #[.slice (some ⟨b, 0, none⟩) n c, .int .i64 z] w fun e w' => e = .returned (.bool (hasB f n z)) ∧ w = w' := by
  have HI := Lib.hid (index_any b n c f z w hM hn)
  clear hM
  go_enter Try.func77, Try.ntmps77
  go_wp2_with fail
  refine HI.out.mono ?_
  rintro e w' ⟨⟨x, rfl, hx⟩, rfl⟩
  clear HI
  by_cases h0 : 0 ≤ x
  · have Hh := Lib.hid (hasB_iff.2 (hx.1 h0))
    clear hx
    go_wp2
    go_ret
    exact ⟨ret_bool Hh.out.symm, rfl⟩
  · have e1 : decide (0 ≤ x) = false := decide_eq_false h0
    have Hh := Lib.hid (hasB_mkF (fun h => h0 (hx.2 h)))
    clear hx
    go_wp2
    go_ret
    exact ⟨ret_bool Hh.out.symm, rfl⟩

open Classical in
noncomputable def connB (G : Gr) : Bool := decide (ValidG G ∧ ∀ v, v < G.ps.length → distF G 0 v ≠ -1)
theorem connB_iff {G : Gr} : connB G = true ↔ ValidG G ∧ ∀ v, v < G.ps.length → distF G 0 v ≠ -1 := by simp [connB]
theorem connB_mkF {G : Gr} (h : ¬ (ValidG G ∧ ∀ v, v < G.ps.length → distF G 0 v ≠ -1)) : connB G = false := by
  unfold connB
  simpa using h

set_option maxHeartbeats 400000 in
theorem connected_any (ia pa : Option Addr) (il ic pl pc : Nat) (G : Gr) (w : World) (hG : GraphAt w ia il pa pl G) :
    Calls Try.prog 65 #[.agg #[.slice ia il ic, .slice pa pl pc]] w fun e w' => e = .returned (.bool (connB G)) ∧ Below w.heap.size w w' := by
  have Hpl := Lib.hid hG.pl
  cases hv : validB G with
  | false =>
    have Hf := Lib.hid (connB_mkF (G := G) fun h => by have := validB_mk h.1; rw [hv] at this; cases this)
    go_enter Try.func65, Try.ntmps65
    go_wp2_with (go_at_call 51; refine (valid_any _ _ _ _ _ _ G _ (hG.alloc _)).mono ?_; rintro e w1 ⟨rfl, hb1⟩; have hbx : Below (w.heap.size + 1) (w.alloc (.cells #[.slice ia il ic, .slice pa pl pc] 26)) w1 := hb1.mono (by simp); have hx0 : w1.cell? ⟨w.heap.size, 0, none⟩ = some (.slice ia il ic) := boxed hbx 0; have hx1 : w1.cell? ⟨w.heap.size, 1, none⟩ = some (.slice pa pl pc) := boxed hbx 1)
    go_ret
    exact ⟨ret_bool Hf.out.symm, belBox hbx⟩
  | true =>
    have HV := Lib.hid (validB_iff.1 hv)
    have hp0 : 0 < pl := by have := HV.out.pos; have := Hpl.out; omega
    have h24 : pl ≤ 1000000 := by have := HV.out.le; have := Hpl.out; omega
    cases hc : hasB (distF G 0) pl (-1) with
    | true =>
      have Hf := Lib.hid (connB_mkF (G := G) fun h => by
        obtain ⟨i, hi, e⟩ := hasB_iff.1 hc
        exact h.2 i (by have := Hpl.out; omega) e)
      go_enter Try.func65, Try.ntmps65
      go_wp2_with (first | (go_at_call 51; refine (valid_any _ _ _ _ _ _ G _ (hG.alloc _)).mono ?_; rintro e w1 ⟨rfl, hb1⟩; have hbx : Below (w.heap.size + 1) (w.alloc (.cells #[.slice ia il ic, .slice pa pl pc] 26)) w1 := hb1.mono (by simp); have hx0 : w1.cell? ⟨w.heap.size, 0, none⟩ = some (.slice ia il ic) := boxed hbx 0; have hx1 : w1.cell? ⟨w.heap.size, 1, none⟩ = some (.slice pa pl pc) := boxed hbx 1) | (go_at_call 67; refine (distances_any _ _ _ _ _ _ G 0 _ (hG.below (belBox hbx)) HV.out hp0).mono ?_; rintro e w2 ⟨⟨fb, rfl, hfb, hM⟩, hb2⟩; have HM := Lib.hid hM; clear hM) | (go_at_call 77; refine (contains_any _ _ _ _ _ _ HM.out h24).mono ?_; rintro e w3 ⟨rfl, rfl⟩))
      go_ret
      exact ⟨ret_bool Hf.out.symm, (belBox hbx).trans (hb2.mono (belBox hbx).size)⟩
    | false =>
      have Hf := Lib.hid (connB_iff (G := G).2 ⟨HV.out, fun v hv e => by
        have := hasB_iff (f := distF G 0) (n := pl) (z := -1).2 ⟨v, by have := Hpl.out; omega, e⟩
        rw [hc] at this; cases this⟩)
      go_enter Try.func65, Try.ntmps65
      go_wp2_with (first | (go_at_call 51; refine (valid_any _ _ _ _ _ _ G _ (hG.alloc _)).mono ?_; rintro e w1 ⟨rfl, hb1⟩; have hbx : Below (w.heap.size + 1) (w.alloc (.cells #[.slice ia il ic, .slice pa pl pc] 26)) w1 := hb1.mono (by simp); have hx0 : w1.cell? ⟨w.heap.size, 0, none⟩ = some (.slice ia il ic) := boxed hbx 0; have hx1 : w1.cell? ⟨w.heap.size, 1, none⟩ = some (.slice pa pl pc) := boxed hbx 1) | (go_at_call 67; refine (distances_any _ _ _ _ _ _ G 0 _ (hG.below (belBox hbx)) HV.out hp0).mono ?_; rintro e w2 ⟨⟨fb, rfl, hfb, hM⟩, hb2⟩; have HM := Lib.hid hM; clear hM) | (go_at_call 77; refine (contains_any _ _ _ _ _ _ HM.out h24).mono ?_; rintro e w3 ⟨rfl, rfl⟩))
      go_ret
      exact ⟨ret_bool Hf.out.symm, (belBox hbx).trans (hb2.mono (belBox hbx).size)⟩

/-- the greatest distance from v, in a connected graph -/
noncomputable def eccF (G : Gr) (v : Int) : Int := if connB G = true ∧ inB v 0 (G.ps.length - 1) = true then maxF (distF G v.toNat) (G.ps.length - 1) else -1
noncomputable def diamF (G : Gr) : Int := if connB G = true then maxF (fun v => maxF (distF G v) (G.ps.length - 1)) (G.ps.length - 1) else -1

set_option maxHeartbeats 400000 in
theorem diameter_any (ia pa : Option Addr) (il ic pl pc : Nat) (G : Gr) (w : World) (hG : GraphAt w ia il pa pl G) :
    Calls Try.prog 64 #[.agg #[.slice ia il ic, .slice pa pl pc]] w fun e w' => e = .returned (.int .i64 (diamF G)) ∧ Below w.heap.size w w' := by
  have Hpl := Lib.hid hG.pl
  cases hc : connB G with
  | false =>
    have Hf : Hid (diamF G = -1) := Lib.hid (by simp [diamF, hc])
    go_enter Try.func64, Try.ntmps64
    go_wp2_with (go_at_call 65; refine (connected_any _ _ _ _ _ _ G _ (hG.alloc _)).mono ?_; rintro e w1 ⟨rfl, hb1⟩; have hbx : Below (w.heap.size + 1) (w.alloc (.cells #[.slice ia il ic, .slice pa pl pc] 26)) w1 := hb1.mono (by simp); have hx0 : w1.cell? ⟨w.heap.size, 0, none⟩ = some (.slice ia il ic) := boxed hbx 0; have hx1 : w1.cell? ⟨w.heap.size, 1, none⟩ = some (.slice pa pl pc) := boxed hbx 1)
    go_ret
    exact ⟨ret_int Hf.out.symm, belBox hbx⟩
  | true =>
    have HV := Lib.hid (connB_iff.1 hc).1
    have h24 : pl ≤ 1000000 := by have := HV.out.le; have := Hpl.out; omega
    have hp1 : 1 ≤ pl := by have := HV.out.pos; have := Hpl.out; omega
    have Hf : Hid (diamF G = maxF (fun v => maxF (distF G v) (pl - 1)) (pl - 1)) := Lib.hid (by
      unfold diamF
      rw [if_pos hc, ← Hpl.out])
    have Hpos : Hid (∀ v, v < pl → 0 ≤ maxF (distF G v) (pl - 1)) := Lib.hid fun v hv => by
      have h1 := maxF_ge (f := distF G v) (i := v) (k := pl - 1) (by omega)
      have h2 : distF G v v = 0 := distF_eq (.inl ⟨0, rfl, rfl, fun m _ => Nat.zero_le m⟩)
      omega
    go_enter Try.func64, Try.ntmps64
    go_wp2_with (go_at_call 65; refine (connected_any _ _ _ _ _ _ G _ (hG.alloc _)).mono ?_; rintro e w1 ⟨rfl, hb1⟩; have hbx : Below (w.heap.size + 1) (w.alloc (.cells #[.slice ia il ic, .slice pa pl pc] 26)) w1 := hb1.mono (by simp); have hx0 : w1.cell? ⟨w.heap.size, 0, none⟩ = some (.slice ia il ic) := boxed hbx 0; have hx1 : w1.cell? ⟨w.heap.size, 1, none⟩ = some (.slice pa pl pc) := boxed hbx 1)
    clear hx0 hx1 hb1
    go_loopw [3, 11] (fun r t wr => ∃ k : Nat, k ≤ pl ∧ t = .int .i64 k ∧ r = .int .i64 (if k = 0 then 0 else maxF (fun v => maxF (distF G v) (pl - 1)) (k - 1)) ∧ Below (w.heap.size + 1) (w.alloc (.cells #[.slice ia il ic, .slice pa pl pc] 26)) wr) (fun _ t _ => pl - (intOf t).toNat)
    case atStart => exact ⟨0, Nat.zero_le _, rfl, rfl, hbx⟩
    case round =>
      obtain ⟨k, hk, rfl, rfl, hbel⟩ := hrel
      have hb0 : wr.cell? ⟨w.heap.size, 0, none⟩ = some (.slice ia il ic) := boxed hbel 0
      have hb1 : wr.cell? ⟨w.heap.size, 1, none⟩ = some (.slice pa pl pc) := boxed hbel 1
      by_cases hlt : k < pl
      · have Hm : Hid ((if k + 1 = 0 then 0 else maxF (fun v => maxF (distF G v) (pl - 1)) (k + 1 - 1)) = max (if k = 0 then 0 else maxF (fun v => maxF (distF G v) (pl - 1)) (k - 1)) (maxF (distF G k) (pl - 1))) := Lib.hid (by
          rw [if_neg (by omega), Nat.add_sub_cancel]
          by_cases h0 : k = 0
          · subst h0
            rw [if_pos rfl]
            have := Hpos.out 0 hlt
            show maxF (distF G 0) (pl - 1) = _
            omega
          · rw [if_neg h0]
            obtain ⟨m, rfl⟩ : ∃ m, k = m + 1 := ⟨k - 1, by omega⟩
            rfl)
        generalize (if k = 0 then 0 else maxF (fun v => maxF (distF G v) (pl - 1)) (k - 1)) = x at *
        generalize hy : maxF (distF G k) (pl - 1) = y at *
        have Hy := Lib.hid hy
        clear hy
        by_cases hx : y ≤ x
        all_goals
          go_wp2_with (first | (go_at_call 67; refine (distances_any _ _ _ _ _ _ G k _ (hG.below (belBox hbel)) HV.out hlt).mono ?_; rintro e w3 ⟨⟨fb, rfl, hfb, hM⟩, hb3⟩; have HM := Lib.hid hM; clear hM) | (go_at_call 76; refine (max_any _ _ _ _ _ HM.out (by omega) h24).mono ?_; rintro e w4 ⟨rfl, rfl⟩; rw [Hy.out]))
          go_roundw
          case rel => exact ⟨k + 1, by omega, by go_num, by rw [Hm.out]; first | rfl | (congr 1; omega), hbel.trans (hb3.mono (Nat.le_trans (by simp) hbel.size))⟩
          case measure => simp [intOf]; omega
      · have Hm : Hid ((if k = 0 then 0 else maxF (fun v => maxF (distF G v) (pl - 1)) (k - 1)) = diamF G) := Lib.hid (by
          rw [if_neg (by omega), Hf.out, show k = pl by omega])
        generalize (if k = 0 then 0 else maxF (fun v => maxF (distF G v) (pl - 1)) (k - 1)) = x at *
        go_wp2
        go_ret
        exact ⟨ret_int Hm.out, belBox hbel⟩
end Go.Proofs.Ytkffpipcjdhbaaa
