/- What FromParents of package family answers. -/
import Derived.Test.YtkffpipcjdhbaaaFam4
namespace Go.Proofs.Ytkffpipcjdhbaaa
open Go.RowKit

set_option maxHeartbeats 4000000 in
theorem parP_ok (b o c : Nat) (zs : List Int) (n : Nat) (w : World) (hnl : zs.length = n) (h1 : 1 ≤ n) (hz : IntsAt w (some ⟨b, o, none⟩) zs) (h0 : idA zs 0 = -1) :
    Calls Try.prog 22 #[.slice (some ⟨b, o, none⟩) n c] w fun e w' => FamOwn w.heap.size (parPO zs) e w' ∧ Below w.heap.size w w' := by
  have hsz := hz.size
  unfold maxLen at hsz
  have hbad : ∀ k, 1 ≤ k → k < n → ¬ (0 ≤ idA zs k ∧ idA zs k < k) → parPO zs = .inl 2 := fun k hk1 hk2 hk => by
    unfold parPO
    rw [if_neg]
    intro ⟨_, _, h⟩
    exact hk (h k hk1 (by omega))
  have hgood : (∀ v, 1 ≤ v → v < n → 0 ≤ idA zs v ∧ idA zs v < v) → parPO zs = relO (parN zs) n := fun h => by
    unfold parPO
    rw [if_pos ⟨by omega, h0, fun v hv1 hv2 => h v hv1 (by omega)⟩, hnl]
  have hrel : ∀ w' : World, w'.cell? ⟨w.heap.size, 0, none⟩ = some (.slice (some ⟨b, o, none⟩) zs.length c) → w.heap.size < w'.heap.size → IntsAt w' (some ⟨b, o, none⟩) zs → _ := fun w' hc hlt hI => related_any (n : Int) 50 #[.pointer (some ⟨w.heap.size, 0, none⟩)] (parN zs) w' (fun hn => ⟨enters_of Try.func50 (by kernel_rfl) rfl, fun w'' x y hbw hab hb => by
    simpa using parC_any (some ⟨b, o, none⟩) c zs x y (by have := inB_true hn; omega) w.heap.size w'' ((hbw.cell (p := ⟨w.heap.size, 0, none⟩) hlt).trans hc) (hI.below hbw)⟩)
  have hbw : b < w.heap.size := by
    obtain ⟨b', o', e, hb', _⟩ := hz.row (by omega)
    injection e with e
    injection e with e1 e2
    omega
  have hcells : ∀ i, i < n → w.cell? ⟨b, o + i, none⟩ = some (.int .i64 (idA zs i)) := by
    obtain ⟨b', o', e, _, hc⟩ := hz.row (by omega)
    injection e with e
    injection e with e1 e2
    subst e1 e2
    rw [hnl] at hc
    exact hc
  obtain ⟨W, hW⟩ : ∃ W, W = (w.alloc (.cells #[.slice (some ⟨b, o, none⟩) n c] 22)).alloc (.cells #[.slice none 0 0, .slice none 0 0] 26) := ⟨_, rfl⟩
  have hWb : Below w.heap.size w W := by rw [hW]; exact ((Below.refl _ _).alloc (Nat.le_refl _) _).alloc (by simp) _
  have hcellsW : ∀ i, i < n → W.cell? ⟨b, o + i, none⟩ = some (.int .i64 (idA zs i)) := fun i hi => (hWb.cell (p := ⟨b, o + i, none⟩) hbw).trans (hcells i hi)
  have x0 : W.cell? ⟨w.heap.size, 0, none⟩ = some (.slice (some ⟨b, o, none⟩) n c) := by rw [hW]; simp [cell_push0]
  have y0 : W.cell? ⟨w.heap.size + 1, 0, none⟩ = some (.slice none 0 0) := by rw [hW]; simp [cell_push0]
  have y1 : W.cell? ⟨w.heap.size + 1, 1, none⟩ = some (.slice none 0 0) := by rw [hW]; simp [cell_push0]
  have g0 : W.frozen? ⟨w.heap.size + 1, 0, none⟩ = false := by rw [hW]; simp [free_push0]
  have g1 : W.frozen? ⟨w.heap.size + 1, 1, none⟩ = false := by rw [hW]; simp [free_push0]
  have hc0 := hcellsW 0 (by omega)
  rw [Nat.add_zero, h0] at hc0
  have hrW := hrel W (by rw [hnl]; exact x0) (by rw [hW]; simp; omega) (hz.below hWb)
  have Hz := Lib.hid hz
  have Hbad := Lib.hid hbad
  have Hgood := Lib.hid hgood
  have Hcells := Lib.hid hcellsW
  have HWb := Lib.hid hWb
  have Hrel := Lib.hid hrW
  have X0 := Lib.hid x0
  have Y0 := Lib.hid y0
  have Y1 := Lib.hid y1
  have G0 := Lib.hid g0
  have G1 := Lib.hid g1
  have hWs : W.heap.size = w.heap.size + 2 := by rw [hW]; simp
  have HW := Lib.hid hW
  rw [hW] at hc0
  rw [hnl] at hsz
  have hq0 : ((n : Int) == 0) = false := by simp; omega
  clear hz hbad hgood hcells hcellsW hWb hrW hrel h0 hnl x0 y0 y1 g0 g1 hW
  go_enter Try.func22, Try.ntmps22
  go_wp2
  rw [← HW.out]
  clear hc0
  go_loop [18] (fun t => ∃ k : Nat, t = .int .i64 k ∧ k ≤ n ∧ ∀ v, 1 ≤ v → v < k → 0 ≤ idA zs v ∧ idA zs v < v) (fun t => n - (intOf t).toNat)
  case atStart => exact ⟨0, rfl, Nat.zero_le _, fun v h1 h2 => absurd h2 (by omega)⟩
  case round =>
    obtain ⟨k, rfl, hk, hok⟩ := hrel
    have Hok := Lib.hid hok
    clear hok
    by_cases hlt : k < n
    · have hck := Hcells.out k hlt
      have x0 := X0.out
      have hk0 : ((k : Int) > 0) = (0 < k) := by simp
      by_cases hkp : 0 < k
      · by_cases hgd : 0 ≤ idA zs k ∧ idA zs k < k
        · have hg1 : ¬ (idA zs k < 0) := by omega
          have hg2 : ¬ ((k : Int) ≤ idA zs k) := by omega
          go_wp2
          go_round
          case rel => exact ⟨k + 1, by go_num, hlt, fun v hv1 hv2 => by
            rcases Nat.lt_or_ge v k with h | h
            · exact Hok.out v hv1 h
            · rw [show v = k by omega]; exact hgd⟩
          case measure => simp [intOf]; omega
        · have hO := Hbad.out k hkp hlt hgd
          have HO := Lib.hid hO
          have y0 := Y0.out
          have y1 := Y1.out
          have g0 := G0.out
          have g1 := G1.out
          by_cases hg1 : idA zs k < 0
          · clear hgd hO
            go_wp2
            refine bodyPost_ret (v := .tuple #[.agg #[.slice none 0 0, .slice none 0 0], .int .i64 2]) (by rw [results_c1 (fn := Try.f22) rfl]; go_simp) rfl ?_
            rw [HO.out]
            exact ⟨noFam 2 _, (HWb.out.setCell (Nat.le_succ _) _).setCell (Nat.le_succ _) _⟩
          · have hg2 : (k : Int) ≤ idA zs k := by omega
            clear hgd hO
            go_wp2
            refine bodyPost_ret (v := .tuple #[.agg #[.slice none 0 0, .slice none 0 0], .int .i64 2]) (by rw [results_c1 (fn := Try.f22) rfl]; go_simp) rfl ?_
            rw [HO.out]
            exact ⟨noFam 2 _, (HWb.out.setCell (Nat.le_succ _) _).setCell (Nat.le_succ _) _⟩
      · obtain rfl : k = 0 := by omega
        rw [Nat.add_zero] at hck
        go_wp2
        go_round
        case rel => exact ⟨1, by go_num, hlt, fun v hv1 hv2 => absurd hv2 (by omega)⟩
        case measure => simp [intOf]; omega
    · obtain rfl : k = n := by omega
      have HO := Lib.hid (Hgood.out Hok.out)
      have x0 := X0.out
      go_wp2_with (go_at_call 40; go_must (refine Hrel.out.mono ?_); go_must (rintro e w1 ⟨⟨a1, l1, c1, a2, l2, c2, kk, rfl, hO⟩, hb3⟩); unfold famRet; have hbx : Below (w.heap.size + 2) ((w.alloc (.cells #[.slice (some ⟨b, o, none⟩) k c] 22)).alloc (.cells #[.slice none 0 0, .slice none 0 0] 26)) w1 := (by rw [← HW.out]; exact hb3.mono (by omega)); have r0 : w1.cell? ⟨w.heap.size + 1, 0, none⟩ = some (.slice none 0 0) := boxedB hbx 0; have r1 : w1.cell? ⟨w.heap.size + 1, 1, none⟩ = some (.slice none 0 0) := boxedB hbx 1; have q0 : w1.frozen? ⟨w.heap.size + 1, 0, none⟩ = false := free_boxB hbx 0; have q1 : w1.frozen? ⟨w.heap.size + 1, 1, none⟩ = false := free_boxB hbx 1; have HQ := Lib.hid hO; clear hO hb3)
      refine bodyPost_ret (v := .tuple #[.agg #[.slice a1 l1 c1, .slice a2 l2 c2], .int .i64 kk]) (by rw [results_c1 (fn := Try.f22) rfl]; go_simp) rfl ?_
      rw [HO.out]
      exact own_box2 (by have h := HQ.out; rw [hWs] at h; exact h) hbx
theorem parP_any (a : Option Addr) (c : Nat) (zs : List Int) (w : World) (hz : IntsAt w a zs) :
    Calls Try.prog 22 #[.slice a zs.length c] w fun e w' => FamOwn w.heap.size (parPO zs) e w' ∧ Below w.heap.size w w' := by
  by_cases h : 0 < zs.length
  · by_cases h0 : idA zs 0 = -1
    · obtain ⟨b, o, rfl, _⟩ := hz.row h
      exact parP_ok b o c zs zs.length w rfl h hz h0
    · exact parPE_any a c zs w hz (.inr ⟨h, h0⟩)
  · exact parPE_any a c zs w hz (.inl (by omega))
end Go.Proofs.Ytkffpipcjdhbaaa
