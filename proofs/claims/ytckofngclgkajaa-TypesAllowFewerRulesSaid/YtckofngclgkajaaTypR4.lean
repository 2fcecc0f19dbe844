/- What LightProgram of the laws answers: where it is true, the program's parts are few. -/
import Derived.Test.YtckofngclgkajaaTypR3
namespace Go.Proofs.Ytckofngclgkajaa
set_option maxRecDepth 100000
open Go.RowKit Go.Maps

def LightSays (p : ProgV) (w : World) (e : Ending) (w' : World) : Prop := (∃ b : Bool, e = .returned (.bool b) ∧ (b = true → p.Few)) ∧ Below w.heap.size w w'
theorem light_no {p : ProgV} {w w' : World} (h : Below w.heap.size w w') : LightSays p w (.returned (.bool false)) w' := ⟨⟨false, rfl, fun h => by cases h⟩, h⟩
set_option maxHeartbeats 8000000 in
theorem lightP_any (p : ProgV) (w : World) (hP : p.At w) : Calls Try.prog 15 #[p.value] w (LightSays p w) := by
  have HRv := Lib.hid (fun h => row_var hP.vrow h)
  have HRr := Lib.hid (fun h => row_rule hP.rrow h)
  have HRu : Hid (∀ i, i < p.rules.length → (rA p.rules i).At w) := Lib.hid (fun i hi => by
    rw [rA_eq hi]
    exact hP.rules _ (List.getElem_mem hi))
  have HYes : Hid (p.vars.length ≤ 10 → p.rules.length ≤ 16 → (∀ i, i < p.rules.length → (rA p.rules i).Few) → p.Few) := Lib.hid (fun h1 h2 h3 => ⟨by omega, by omega, fun r hr => by
    obtain ⟨i, hi, rfl⟩ := List.mem_iff_getElem.1 hr
    have := h3 i hi
    rwa [rA_eq hi] at this⟩)
  have HNo := Lib.hid (fun (w' : World) (h : Below w.heap.size w w') => light_no (p := p) h)
  obtain ⟨Q, hQ⟩ : ∃ Q, Q = LightSays p w := ⟨_, rfl⟩
  rw [← hQ] at HNo
  rw [← hQ]
  have HQy : Hid (p.Few → ∀ w', Below w.heap.size w w' → Q (.returned (.bool true)) w') := Lib.hid (fun h w' hb => by rw [hQ]; exact ⟨⟨true, rfl, fun _ => h⟩, hb⟩)
  clear hP hQ
  unfold ProgV.value
  generalize p.Few = PF at *
  obtain ⟨nm, va, vc, vars, ra, rc, rules⟩ := p
  dsimp only at *
  generalize vars.length = nv at *
  generalize rules.length = nr at *
  have hst : Pbox nm va nv vc ra nr rc w (w.alloc (.cells #[.string nm, .slice va nv vc, .slice ra nr rc] 33)) := Below.refl _ _
  have HSt := Lib.hid hst
  clear hst
  have p0c := HSt.out.c0
  have p1c := HSt.out.c1
  have p2c := HSt.out.c2
  by_cases h1 : 40 < nm.size
  · have n1 : (40 : Int) < (nm.size : Int) := by omega
    clear h1
    go_enter Try.func15, Try.ntmps15
    go_wp2
    exact HNo.out _ HSt.out.bel
  have n1 : decide ((40 : Int) < (nm.size : Int)) = false := by simp; omega
  by_cases h2 : 10 < nv
  · have n2 : (10 : Int) < (nv : Int) := by omega
    clear h1 h2
    go_enter Try.func15, Try.ntmps15
    go_wp2
    exact HNo.out _ HSt.out.bel
  have n2 : decide ((10 : Int) < (nv : Int)) = false := by simp; omega
  by_cases h3 : 16 < nr
  · have n3 : (16 : Int) < (nr : Int) := by omega
    clear h1 h2 h3
    go_enter Try.func15, Try.ntmps15
    go_wp2
    exact HNo.out _ HSt.out.bel
  have n3 : decide ((16 : Int) < (nr : Int)) = false := by simp; omega
  clear h1
  have h2' : nv ≤ 10 := by omega
  have h3' : nr ≤ 16 := by omega
  clear h2 h3
  go_enter Try.func15, Try.ntmps15
  go_wp2
  clear n1 n2 n3 p0c p1c p2c
  go_loopw [3] (fun t wr => ∃ i : Nat, t = .int .i64 i ∧ i ≤ nv ∧ Pbox nm va nv vc ra nr rc w wr) (fun t _ => nv - (intOf t).toNat)
  case atStart => exact ⟨0, rfl, Nat.zero_le _, HSt.out⟩
  case round =>
    obtain ⟨i, rfl, hi, hbx⟩ := hrel
    have HBx := Lib.hid hbx
    have q1 := hbx.c1
    clear hbx
    by_cases hlt : i < nv
    · have ilt : (i : Int) < (nv : Int) := by omega
      have i0' : (0 : Int) ≤ (i : Int) := by omega
      obtain ⟨b, o, rfl, hcell⟩ := HRv.out (by omega)
      have s0 := (hcell _ HBx.out.bel i hlt).1
      clear hcell
      generalize (vA vars i).name = s at *
      by_cases h40 : 40 < s.size
      · have n4 : (40 : Int) < (s.size : Int) := by omega
        clear h40
        go_wp2
        exact HNo.out _ HBx.out.bel
      · have n4 : decide ((40 : Int) < (s.size : Int)) = false := by simp; omega
        clear h40
        go_wp2
        go_roundw
        case rel => exact ⟨i + 1, by go_num, by omega, HBx.out⟩
        case measure => simp [intOf]; omega
    · obtain rfl : nv = i := by omega
      go_wp2
      obtain ⟨wo, rfl⟩ : ∃ wo : World, wo = wr := ⟨_, rfl⟩
      go_loopw [4] (fun t wr => ∃ i : Nat, t = .int .i64 i ∧ i ≤ nr ∧ (∀ j, j < i → (rA rules j).Few) ∧ Pbox nm va nv vc ra nr rc w wr) (fun t _ => nr - (intOf t).toNat)
      case atStart => exact ⟨0, rfl, Nat.zero_le _, (fun j h => by omega), HBx.out⟩
      case round =>
        obtain ⟨i, rfl, hi, hgood, hbx⟩ := hrel
        have HG := Lib.hid hgood
        have HBx := Lib.hid hbx
        have q2 := hbx.c2
        clear hgood hbx
        by_cases hlt : i < nr
        · have ilt : (i : Int) < (nr : Int) := by omega
          have i0' : (0 : Int) ≤ (i : Int) := by omega
          obtain ⟨b, o, rfl, hcell⟩ := HRr.out (by omega)
          obtain ⟨s0, s1, s2⟩ := hcell _ HBx.out.bel i hlt
          have hAt := HRu.out i hlt
          have HG2 : Hid ((rA rules i).Few → ∀ j, j < i + 1 → (rA rules j).Few) := Lib.hid (fun h j hj => by
            rcases Nat.lt_or_ge j i with h1 | h1
            · exact HG.out j h1
            · obtain rfl : j = i := by omega
              exact h)
          clear hcell
          generalize rA rules i = r at *
          obtain ⟨rnm, ga, gc, guard, sa, sc, sets⟩ := r
          unfold RuleV.Few at HG2
          dsimp only at *
          have HRs := Lib.hid (fun h => row_sets7 hAt.row hAt.sets h)
          have HSe : Hid ((∀ k, k < sets.length → (seA sets k).length ≤ 250) → ∀ s ∈ sets, s.val.length ≤ 1000) := Lib.hid (fun h s hs => by
            obtain ⟨k, hk, rfl⟩ := List.mem_iff_getElem.1 hs
            have := h k hk
            rw [seA_eq hk] at this
            omega)
          have HLg := Lib.hid (fun W => lightE_any ga guard.length gc W)
          have HGl : Hid (guard.length ≤ 250 → guard.length ≤ 1000) := Lib.hid (fun h => by omega)
          clear hAt
          generalize hgle : guard.length = gl at *
          generalize sets.length = m at *
          clear hgle
          have HBA := Lib.hid (HBx.out.next (below_alloc7 wr (.cells #[.string rnm, .slice ga gl gc, .slice sa m sc] 51)))
          by_cases h40 : 40 < rnm.size
          · have n4 : (40 : Int) < (rnm.size : Int) := by omega
            clear h40
            go_wp2
            exact HNo.out _ HBA.out.bel
          have n4 : decide ((40 : Int) < (rnm.size : Int)) = false := by simp; omega
          by_cases hm10 : 10 < m
          · have n5 : (10 : Int) < (m : Int) := by omega
            clear h40 hm10
            go_wp2
            exact HNo.out _ HBA.out.bel
          have n5 : decide ((10 : Int) < (m : Int)) = false := by simp; omega
          have hm10' : m ≤ 10 := by omega
          clear h40 hm10
          by_cases hg250 : gl ≤ 250
          case neg =>
            rw [decide_eq_false hg250] at HLg
            go_wp2_with (go_at_call 11; refine (HLg.out _).mono ?_; rintro e w5 ⟨rfl, hw5⟩; have hw5' := hw5.symm; subst hw5')
            exact HNo.out _ HBA.out.bel
          rw [decide_eq_true hg250] at HLg
          have HG1 := Lib.hid (HGl.out hg250)
          clear hg250
          go_wp2_with (go_at_call 11; refine (HLg.out _).mono ?_; rintro e w5 ⟨rfl, hw5⟩; have hw5' := hw5.symm; subst hw5')
          have h2A := (World.cell?_alloc_new wr #[.string rnm, .slice ga gl gc, .slice sa m sc] 51 2)
          have hszA : wr.heap.size < (wr.alloc (.cells #[.string rnm, .slice ga gl gc, .slice sa m sc] 51)).heap.size := by simp
          obtain ⟨wA, hwA⟩ : ∃ wA, wA = wr.alloc (.cells #[.string rnm, .slice ga gl gc, .slice sa m sc] 51) := ⟨_, rfl⟩
          rw [← hwA] at h2A hszA HBA
          rw [← hwA]
          clear hwA
          have H2A : Hid (∀ W, Below wA.heap.size wA W → W.cell? ⟨wr.heap.size, 2, none⟩ = some (.slice sa m sc)) := Lib.hid (fun W hb => (hb.cell (p := ⟨wr.heap.size, 2, none⟩) hszA).trans h2A)
          clear h2A hszA
          generalize wr.heap.size = bb at *
          go_loopw [6] (fun t wr => ∃ k : Nat, t = .int .i64 k ∧ k ≤ m ∧ (∀ j, j < k → (seA sets j).length ≤ 250) ∧ Below wA.heap.size wA wr) (fun t _ => m - (intOf t).toNat)
          case atStart => exact ⟨0, rfl, Nat.zero_le _, (fun j h => by omega), Below.refl _ _⟩
          case round =>
            obtain ⟨k, rfl, hk, hlow, hbl⟩ := hrel
            have HL := Lib.hid hlow
            have HBl := Lib.hid hbl
            have q3 := H2A.out _ hbl
            have HBw := Lib.hid (HBA.out.next hbl)
            clear hlow hbl
            by_cases hkm : k < m
            · have klt : (k : Int) < (m : Int) := by omega
              have k0 : (0 : Int) ≤ (k : Int) := by omega
              obtain ⟨b2, o2, rfl, hcell⟩ := HRs.out (by omega)
              obtain ⟨_, x, c, u1, _, _⟩ := hcell _ HBw.out.bel k hkm
              have HLs := Lib.hid (fun W => lightE_any x (seA sets k).length c W)
              clear hcell
              by_cases hl250 : (seA sets k).length ≤ 250
              · have HL2 : Hid (∀ j, j < k + 1 → (seA sets j).length ≤ 250) := Lib.hid (fun j hj => by
                  rcases Nat.lt_or_ge j k with h1 | h1
                  · exact HL.out j h1
                  · obtain rfl : j = k := by omega
                    exact hl250)
                rw [decide_eq_true hl250] at HLs
                clear hl250
                generalize (seA sets k).length = l at *
                go_wp2_with (go_at_call 11; refine (HLs.out _).mono ?_; rintro e w5 ⟨rfl, hw5⟩; have hw5' := hw5.symm; subst hw5')
                go_roundw
                case rel => exact ⟨k + 1, by go_num, by omega, HL2.out, HBl.out⟩
                case measure => simp [intOf]; omega
              · rw [decide_eq_false hl250] at HLs
                clear hl250
                generalize (seA sets k).length = l at *
                go_wp2_with (go_at_call 11; refine (HLs.out _).mono ?_; rintro e w5 ⟨rfl, hw5⟩; have hw5' := hw5.symm; subst hw5')
                exact HNo.out _ HBw.out.bel
            · obtain rfl : m = k := by omega
              have HG3 := Lib.hid (HG2.out ⟨HG1.out, HSe.out HL.out⟩)
              go_wp2
              go_roundw
              case rel => exact ⟨i + 1, by go_num, by omega, HG3.out, HBw.out⟩
              case measure => simp [intOf]; omega
        · obtain rfl : nr = i := by omega
          have HF := Lib.hid (HQy.out (HYes.out h2' h3' HG.out))
          go_wp2
          exact HF.out _ HBx.out.bel
end Go.Proofs.Ytckofngclgkajaa
