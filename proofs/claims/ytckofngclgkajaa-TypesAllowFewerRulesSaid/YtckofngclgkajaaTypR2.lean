/- What typed of the specification of layer 7 answers. -/
import Derived.Test.YtckofngclgkajaaTypR1
namespace Go.Proofs.Ytckofngclgkajaa
set_option maxRecDepth 100000
open Go.RowKit Go.Maps

set_option maxHeartbeats 8000000 in
theorem typedR_any (r : RuleV) (ka : Option Addr) (kc : Nat) (ks : List Int) (w : World) (hR : r.At w) (hK : IntsAt w ka ks) (hF : r.Few) (hfo : formedF r ks.length = true) :
    Calls Try.prog 47 #[r.value, .slice ka ks.length kc] w fun e w' => e = .returned (.bool (typedF r ks)) ∧ Below w.heap.size w w' := by
  obtain ⟨hm1, hm6, hvg, hset⟩ := formed_parts hfo
  have HTi : Hid (typedF r ks = true ↔ kindL r.guard ks = 2 ∧ ∀ k, k < r.sets.length → TyOk r.sets ks k) := Lib.hid typed_iff
  generalize typedF r ks = tz at *
  clear hfo
  unfold RuleV.value
  obtain ⟨rnm, ga, gc, guard, sa, sc, sets⟩ := r
  dsimp only at *
  have HTg := Lib.hid (fun W (hb : Below w.heap.size w W) => kindL_any ga gc guard ka kc ks W (hR.links.below hb) (hK.below hb) hF.1 hvg)
  have HRs := Lib.hid (fun h => row_sets7 hR.row hR.sets h)
  have HSl : Hid (∀ k, k < sets.length → (seA sets k).length ≤ 1000) := Lib.hid (fun k hk => by rw [seA_eq hk]; exact hF.2 _ (List.getElem_mem hk))
  have HSet := Lib.hid hset
  have HKi := Lib.hid hK
  have hst : Rbox rnm ga guard.length gc sa sets.length sc w (w.alloc (.cells #[.string rnm, .slice ga guard.length gc, .slice sa sets.length sc] 51)) := Below.refl _ _
  have HSt := Lib.hid hst
  clear hR hF hvg hset hK hst
  generalize sets.length = m at *
  generalize kindL guard ks = kg at *
  generalize guard.length = gl at *
  obtain ⟨n, hn⟩ : ∃ n, n = ks.length := ⟨_, rfl⟩
  have HNn := Lib.hid hn
  rw [← hn] at HTg HSet ⊢
  clear hn
  have k1 := HSt.out.c1
  by_cases hkg : kg = 2
  case neg =>
    have hzf : tz = false := by cases htz : tz with | false => rfl | true => exact absurd (HTi.out.1 htz).1 hkg
    subst hzf
    have kg1 : (kg != 2) = true := by simpa using hkg
    clear hkg
    go_enter Try.func47, Try.ntmps47
    go_wp2_with (go_at_call 34; refine (HTg.out _ HSt.out.bel).mono ?_; rintro e w6 ⟨rfl, hb6⟩)
    go_ret
    exact ⟨rfl, (HSt.out.next hb6).bel⟩
  subst hkg
  go_enter Try.func47, Try.ntmps47
  go_wp2_with (go_at_call 34; refine (HTg.out _ HSt.out.bel).mono ?_; rintro e w6 ⟨rfl, hb6⟩; have hB6 := HSt.out.next hb6)
  have HB6 := Lib.hid hB6
  clear hB6 hb6
  go_loopw [5] (fun t wr => ∃ k : Nat, t = .int .i64 k ∧ k ≤ m ∧ (∀ j, j < k → TyOk sets ks j) ∧ Rbox rnm ga gl gc sa m sc w wr) (fun t _ => m - (intOf t).toNat)
  case atStart => exact ⟨0, rfl, Nat.zero_le _, (fun j h => by omega), HB6.out⟩
  case round =>
    obtain ⟨k, rfl, hk, hty, hbx⟩ := hrel
    have HTy := Lib.hid hty
    have HBx := Lib.hid hbx
    have q2 := hbx.c2
    clear hty hbx
    by_cases hkl2 : k < m
    · have klt : (k : Int) < (m : Int) := by omega
      have k0 : (0 : Int) ≤ (k : Int) := by omega
      obtain ⟨b2, o2, rfl, hcell⟩ := HRs.out (by omega)
      obtain ⟨u0, x, c, u1, hX, hcp⟩ := hcell _ HBx.out.bel k hkl2
      have hso := HSet.out k hkl2
      obtain ⟨d, hd, hdn⟩ := set_ix hso
      obtain ⟨kg2, ko2, rfl, hkg2, hkc2⟩ := (HKi.out.below HBx.out.bel).row (by have := HNn.out; omega)
      have hcd := hkc2 d (by have := HNn.out; omega)
      have HTv := Lib.hid (fun W (hb : Below wr.heap.size wr W) => kindL_any x c (seA sets k) (some ⟨kg2, ko2, none⟩) kc ks W (hX.below hb) ((HKi.out.below HBx.out.bel).below hb) (HSl.out k hkl2) (by rw [← HNn.out]; exact hso.2.1))
      rw [← HNn.out] at HTv
      have HOk : Hid (TyOk sets ks k ↔ kindL (seA sets k) ks = idA ks d) := Lib.hid (by unfold TyOk; rw [hd, Int.toNat_natCast])
      rw [hd] at u0
      have d0 : (0 : Int) ≤ (d : Int) := by omega
      have dn : (d : Int) < (n : Int) := by omega
      have HA3 := Lib.hid (fun W (hb : Below wr.heap.size wr W) => (by
        have h1 := hcell W (HBx.out.next hb).bel k hkl2
        refine ⟨(HBx.out.next hb).c2, by rw [← hd]; exact h1.1, (hb.cell (p := ⟨b2, o2 + k * 2 + 1, none⟩) (cell_lt u1)).trans u1, (hb.cell (p := ⟨kg2, ko2 + d, none⟩) hkg2).trans hcd, hb⟩ : W.cell? ⟨w.heap.size, 2, none⟩ = some (.slice (some ⟨b2, o2, none⟩) m sc) ∧ W.cell? ⟨b2, o2 + k * 2, none⟩ = some (.int .i64 (d : Int)) ∧ W.cell? ⟨b2, o2 + k * 2 + 1, none⟩ = some (.slice x (seA sets k).length c) ∧ W.cell? ⟨kg2, ko2 + d, none⟩ = some (.int .i64 (idA ks d)) ∧ Below wr.heap.size wr W))
      clear hcell hso hd hkc2 hX hcp hkg2
      generalize kindL (seA sets k) ks = kv at *
      generalize (seA sets k).length = l at *
      generalize idA ks d = kd at *
      by_cases hkk : kv = kd
      · have hTk := HOk.out.2 hkk
        have HTy2 : Hid (∀ j, j < k + 1 → TyOk sets ks j) := Lib.hid (fun j hj => by
          rcases Nat.lt_or_ge j k with h1 | h1
          · exact HTy.out j h1
          · obtain rfl : j = k := by omega
            exact hTk)
        clear hTk HOk
        subst hkk
        have kk : (kv != kv) = false := by simp
        go_wp2
        go_region_held3 (fun w' => w'.cell? ⟨w.heap.size, 2, none⟩ = some (.slice (some ⟨b2, o2, none⟩) m sc) ∧ w'.cell? ⟨b2, o2 + k * 2, none⟩ = some (.int .i64 (d : Int)) ∧ w'.cell? ⟨b2, o2 + k * 2 + 1, none⟩ = some (.slice x l c) ∧ w'.cell? ⟨kg2, ko2 + d, none⟩ = some (.int .i64 kv) ∧ Below wr.heap.size wr w') (first | exact HA3.out _ hb9 | exact ⟨q2, u0, u1, hcd, Below.refl _ _⟩ | exact ⟨q2, u0, u1, hcd, belDraws (Below.refl _ _) _⟩) ((go_at_call 34; refine (HTv.out _ (by first | exact Below.refl _ _ | exact belDraws (Below.refl _ _) _)).mono ?_; rintro e w9 ⟨rfl, hb90⟩; have hb9 := (show Below wr.heap.size wr w9 from by first | exact hb90 | exact (belDraws (Below.refl _ _) _).trans hb90)))
        have HB9 := Lib.hid (HBx.out.next hb9)
        go_wp2_with fail
        go_roundw
        case rel => exact ⟨k + 1, by go_num, by omega, HTy2.out, HB9.out⟩
        case measure => simp [intOf]; omega
      · have hTk : ¬ TyOk sets ks k := fun h => hkk (HOk.out.1 h)
        have hzf : tz = false := by cases htz : tz with | false => rfl | true => exact absurd ((HTi.out.1 htz).2 k hkl2) hTk
        subst hzf
        have kk : (kv != kd) = true := by simpa using hkk
        clear hTk HOk hkk
        go_wp2
        go_region_held3 (fun w' => w'.cell? ⟨w.heap.size, 2, none⟩ = some (.slice (some ⟨b2, o2, none⟩) m sc) ∧ w'.cell? ⟨b2, o2 + k * 2, none⟩ = some (.int .i64 (d : Int)) ∧ w'.cell? ⟨b2, o2 + k * 2 + 1, none⟩ = some (.slice x l c) ∧ w'.cell? ⟨kg2, ko2 + d, none⟩ = some (.int .i64 kd) ∧ Below wr.heap.size wr w') (first | exact HA3.out _ hb9 | exact ⟨q2, u0, u1, hcd, Below.refl _ _⟩ | exact ⟨q2, u0, u1, hcd, belDraws (Below.refl _ _) _⟩) ((go_at_call 34; refine (HTv.out _ (by first | exact Below.refl _ _ | exact belDraws (Below.refl _ _) _)).mono ?_; rintro e w9 ⟨rfl, hb90⟩; have hb9 := (show Below wr.heap.size wr w9 from by first | exact hb90 | exact (belDraws (Below.refl _ _) _).trans hb90)))
        have HB9 := Lib.hid (HBx.out.next hb9)
        go_wp2_with fail
        go_ret
        exact ⟨rfl, HB9.out.bel⟩
    · obtain rfl : m = k := by omega
      have htz := HTi.out.2 ⟨by trivial, HTy.out⟩
      subst htz
      go_wp2
      go_ret
      exact ⟨rfl, HBx.out.bel⟩
end Go.Proofs.Ytckofngclgkajaa
