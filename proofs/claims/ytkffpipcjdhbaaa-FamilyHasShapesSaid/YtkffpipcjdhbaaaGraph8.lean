/- What Distances of package graph answers, and Mod of selfstabmade. -/
import Derived.Test.YtkffpipcjdhbaaaDist2
namespace Go.Proofs.Ytkffpipcjdhbaaa
open Go.RowKit

set_option maxHeartbeats 400000 in
theorem distancesOf_any (ia pa : Option Addr) (il ic pl pc : Nat) (G : Gr) (s : Nat) (w : World) (hG : GraphAt w ia il pa pl G) (hV : ValidG G) (hs : s < pl) :
    Calls Try.prog 36 #[.agg #[.slice ia il ic, .slice pa pl pc], .int .i64 s] w fun e w' => (∃ blk, e = .returned (.slice (some ⟨blk, 0, none⟩) pl pl) ∧ w.heap.size ≤ blk ∧ MadeAt w' blk pl (distF G s)) ∧ Below w.heap.size w w' := by
  have HV := Lib.hid hV
  have hv := validB_mk hV
  have hi : inB s 0 (pl - 1) = true := inB_mk (by omega)
  clear hV
  go_enter Try.func36, Try.ntmps36
  go_wp2_with (first | (go_at_call 51; refine (valid_any _ _ _ _ _ _ G _ (hG.alloc _)).mono ?_; rintro e w1 ⟨rfl, hb1⟩; have hbx : Below (w.heap.size + 1) (w.alloc (.cells #[.slice ia il ic, .slice pa pl pc] 26)) w1 := hb1.mono (by simp); have hx0 : w1.cell? ⟨w.heap.size, 0, none⟩ = some (.slice ia il ic) := boxed hbx 0; have hx1 : w1.cell? ⟨w.heap.size, 1, none⟩ = some (.slice pa pl pc) := boxed hbx 1) | (go_at_call 66; refine (has_any _ _ _ _ _ _ _ _).mono ?_; rintro e w2 ⟨rfl, hb2⟩; have hbx2 := hbx.trans (hb2.mono (Nat.le_trans (by simp) hbx.size)); have hy0 : w2.cell? ⟨w.heap.size, 0, none⟩ = some (.slice ia il ic) := boxed hbx2 0; have hy1 : w2.cell? ⟨w.heap.size, 1, none⟩ = some (.slice pa pl pc) := boxed hbx2 1) | (go_at_call 67; refine (distances_any _ _ _ _ _ _ G s _ (hG.below (belBox hbx2)) HV.out hs).mono ?_; rintro e w3 ⟨⟨fb, rfl, hfb, hM⟩, hb3⟩; have HM := Lib.hid hM; clear hM))
  go_ret
  exact ⟨⟨fb, rfl, Nat.le_trans (belBox hbx2).size hfb, HM.out⟩, (belBox hbx2).trans (hb3.mono (belBox hbx2).size)⟩

set_option maxHeartbeats 400000 in
theorem mod_any (k : Int) (n : Nat) (w : World) (hk : I64 k) (hn : 1 ≤ n) (hn2 : n ≤ 1000000) :
    Calls Try.prog 33 #[.int .i64 k, .int .i64 n] w fun e w' => e = .returned (.int .i64 (k % n)) ∧ w = w' := by
  obtain ⟨h1, h2⟩ := hk
  have hn0 : (1 : Int) ≤ n := by omega
  have hne : ((n : Int) == 0) = false := by simp; omega
  have ht : k.tmod n < n := Int.tmod_lt_of_pos k (by omega)
  have ht2 : -(n : Int) < k.tmod n := Int.lt_tmod_of_pos k (by omega)
  by_cases h0 : 0 ≤ k
  · have e1 : 0 ≤ k % (n : Int) := Int.emod_nonneg k (by omega)
    go_enter Try.func33, Try.ntmps33
    go_wp2
    go_ret
    exact ⟨rfl, rfl⟩
  · have he : k % (n : Int) = if k.tmod n < 0 then k.tmod n + n else k.tmod n := by
      rw [Int.tmod_eq_emod]
      have e1 := Int.emod_nonneg k (b := (n : Int)) (by omega)
      have e2 := Int.emod_lt_of_pos k (b := (n : Int)) (by omega)
      by_cases hd : (n : Int) ∣ k
      · have := Int.emod_eq_zero_of_dvd hd
        simp [h0, hd]; omega
      · simp [h0, hd]; omega
    have He := Lib.hid he
    clear he
    by_cases ht0 : k.tmod n < 0
    · go_enter Try.func33, Try.ntmps33
      go_wp2
      go_ret
      exact ⟨ret_int (by rw [He.out, if_pos ht0]), rfl⟩
    · go_enter Try.func33, Try.ntmps33
      go_wp2
      go_ret
      exact ⟨ret_int (by rw [He.out, if_neg (by omega)]), rfl⟩

theorem mod_nat (k : Int) {n : Nat} (hn : 1 ≤ n) : ∃ s : Nat, k % (n : Int) = s ∧ s < n := by
  have e1 := Int.emod_nonneg k (b := (n : Int)) (by omega)
  have e2 := Int.emod_lt_of_pos k (b := (n : Int)) (by omega)
  exact ⟨(k % (n : Int)).toNat, by omega, by omega⟩

theorem distF_zero {G : Gr} {s v : Nat} : distF G s v = 0 ↔ v = s := by
  constructor
  · intro h
    rcases distF_is G s v with ⟨k, e, h1, _⟩ | ⟨e, _⟩
    · rw [show k = 0 by omega] at h1; exact h1
    · omega
  · rintro rfl; exact dist_self G v
theorem distF_adj {G : Gr} (hG : ValidG G) {s v u : Nat} (hv : v < G.ps.length) (h : Adj G v u) : (0 ≤ distF G s v → 0 ≤ distF G s u ∧ distF G s u ≤ distF G s v + 1) := by
  intro h0
  have h1 : distF G v u = 1 := dist_adj h (h.lt hG hv).2
  have := distF_tri (a := s) (b := v) (c := u) h0 (by omega)
  omega
theorem distF_near {G : Gr} (hG : ValidG G) {s v : Nat} (hs : s < G.ps.length) (h : 0 < distF G s v) : ∃ u, Adj G v u ∧ distF G s u = distF G s v - 1 := by
  rcases distF_is G s v with ⟨k, e, h1, h2⟩ | ⟨e, _⟩
  · obtain ⟨m, rfl⟩ : ∃ m, k = m + 1 := ⟨k - 1, by omega⟩
    rcases h1 with h1 | ⟨u, hu, ha⟩
    · have := h2 m h1; omega
    · refine ⟨u, ha.symm hG (hu.lt hG hs), ?_⟩
      rw [e]
      refine distF_eq (.inl ⟨m, by omega, hu, fun j hj => ?_⟩)
      have := h2 (j + 1) (.inr ⟨u, hj, ha⟩)
      omega
  · omega
end Go.Proofs.Ytkffpipcjdhbaaa
