/- What Check and Valid of the specification of layer 7 answer. -/
import Derived.Test.YtckofngclgkajaaTypR2
namespace Go.Proofs.Ytckofngclgkajaa
set_option maxRecDepth 100000
open Go.RowKit Go.Maps

set_option maxHeartbeats 8000000 in
theorem checkR_any (p : ProgV) (w : World) (hP : p.At w) (hF : p.Few) :
    Calls Try.prog 17 #[p.value] w fun e w' => e = .returned (.int .i64 (checkF p)) ∧ Below w.heap.size w w' := by
  have HN := Lib.hid (fun W (hb : Below w.heap.size w W) => namedR_any p W (hP.below hb) hF.vars hF.rules)
  have HKd := Lib.hid (fun W (hb : Below w.heap.size w W) => kindsR_any p W (hP.below hb) hF.vars)
  have HRv := Lib.hid (fun h => row_var hP.vrow h)
  have HRr := Lib.hid (fun h => row_rule hP.rrow h)
  have HNu := Lib.hid (fun i W => numbersR_any (vA p.vars i) W)
  have HFo := Lib.hid (fun i (hi : i < p.rules.length) W (hb : Below w.heap.size w W) => formedR_any (rA p.rules i) p.vars.length W (by rw [rA_eq hi]; exact (hP.rules _ (List.getElem_mem hi)).below hb) hF.vars (by rw [rA_eq hi]; exact (hF.each _ (List.getElem_mem hi)).1) (by rw [rA_eq hi]; exact (hF.each _ (List.getElem_mem hi)).2))
  have HTy := Lib.hid (fun i (hi : i < p.rules.length) (hfo : formedF (rA p.rules i) p.vars.length = true) (a : Option Addr) (c : Nat) W (hb : Below w.heap.size w W) (hI : IntsAt W a (p.vars.map VarV.kind)) => (by
    have h := typedR_any (rA p.rules i) a c (p.vars.map VarV.kind) W (by rw [rA_eq hi]; exact (hP.rules _ (List.getElem_mem hi)).below hb) hI (by rw [rA_eq hi]; exact hF.each _ (List.getElem_mem hi)) (by rw [List.length_map]; exact hfo)
    rw [List.length_map] at h
    exact h : Calls Try.prog 47 #[(rA p.rules i).value, .slice a p.vars.length c] W fun e w' => e = .returned (.bool (typedF (rA p.rules i) (p.vars.map VarV.kind))) ∧ Below W.heap.size W w'))
  obtain ⟨z, hz⟩ : ∃ z, z = checkF p := ⟨_, rfl⟩
  rw [← hz]
  unfold checkF at hz
  have hst : Pbox p.name p.va p.vars.length p.vc p.ra p.rules.length p.rc w (w.alloc (.cells #[.string p.name, .slice p.va p.vars.length p.vc, .slice p.ra p.rules.length p.rc] 33)) := Below.refl _ _
  have HSt := Lib.hid hst
  have HI0 := fun W => inR_any (p.vars.length : Int) 1 6 W
  clear hst hP hF
  generalize hbn : namedF p = bn at *
  clear hbn
  obtain ⟨bv, hbv⟩ : ∃ bv, bv = p.vars.all numbersF := ⟨_, rfl⟩
  obtain ⟨br, hbr⟩ : ∃ br, br = (p.rules.all fun r => formedF r p.vars.length) := ⟨_, rfl⟩
  obtain ⟨bt, hbt⟩ : ∃ bt, bt = (p.rules.all fun r => typedF r (p.vars.map VarV.kind)) := ⟨_, rfl⟩
  rw [← hbv, ← hbr, ← hbt] at hz
  have HN1 : Hid (∀ i, i < p.vars.length → numbersF (vA p.vars i) = false → bv = false) := Lib.hid (fun i hi h => by rw [hbv]; exact not_all_vA (f := numbersF) hi h)
  have HA1 : Hid ((∀ i, i < p.vars.length → numbersF (vA p.vars i) = true) → bv = true) := Lib.hid (fun h => by rw [hbv]; exact all_vA h)
  have HN2 : Hid (∀ i, i < p.rules.length → formedF (rA p.rules i) p.vars.length = false → br = false) := Lib.hid (fun i hi h => by rw [hbr]; exact not_all_rA (f := fun r => formedF r p.vars.length) hi h)
  have HA2 : Hid ((∀ i, i < p.rules.length → formedF (rA p.rules i) p.vars.length = true) → br = true) := Lib.hid (fun h => by rw [hbr]; exact all_rA (f := fun r => formedF r p.vars.length) h)
  have HN3 : Hid (∀ i, i < p.rules.length → typedF (rA p.rules i) (p.vars.map VarV.kind) = false → bt = false) := Lib.hid (fun i hi h => by rw [hbt]; exact not_all_rA (f := fun r => typedF r (p.vars.map VarV.kind)) hi h)
  have HA3 : Hid ((∀ i, i < p.rules.length → typedF (rA p.rules i) (p.vars.map VarV.kind) = true) → bt = true) := Lib.hid (fun h => by rw [hbt]; exact all_rA (f := fun r => typedF r (p.vars.map VarV.kind)) h)
  clear hbv hbr hbt
  generalize hkse : p.vars.map VarV.kind = ks at *
  clear hkse
  unfold ProgV.value at *
  obtain ⟨nm, va, vc, vars, ra, rc, rules⟩ := p
  dsimp only at *
  generalize vars.length = nv at *
  generalize rules.length = nr at *
  have p1c := HSt.out.c1
  have p2c := HSt.out.c2
  by_cases h1 : 1 ≤ nv ∧ nv ≤ 6
  case neg =>
    rw [if_pos (by omega)] at hz
    have h0 : inF (nv : Int) 1 6 = false := by rw [Bool.eq_false_iff]; unfold inF; simp; omega
    rw [h0] at HI0
    clear h0 h1
    subst hz
    go_enter Try.func17, Try.ntmps17
    go_wp2_with (go_at_call 43; refine (HI0 _).mono ?_; rintro e w5 ⟨rfl, hw5⟩; have hw5' := hw5.symm; subst hw5')
    go_ret
    exact ⟨rfl, HSt.out.bel⟩
  have h0 : inF (nv : Int) 1 6 = true := by unfold inF; simp; omega
  rw [h0] at HI0
  clear h0
  by_cases h3 : nr ≤ 12
  case neg =>
    rw [if_pos (by omega)] at hz
    have n12 : (12 : Int) < (nr : Int) := by omega
    subst hz
    clear h1
    go_enter Try.func17, Try.ntmps17
    go_wp2_with (go_at_call 43; refine (HI0 _).mono ?_; rintro e w5 ⟨rfl, hw5⟩; have hw5' := hw5.symm; subst hw5')
    go_ret
    exact ⟨rfl, HSt.out.bel⟩
  have n12 : decide ((12 : Int) < (nr : Int)) = false := by simp; omega
  rw [if_neg (by omega)] at hz
  have H6 : Hid (nv ≤ 6 ∧ nr ≤ 12) := Lib.hid ⟨h1.2, h3⟩
  clear h1 h3
  have p0c := HSt.out.c0
  cases bn with
  | false =>
    rw [if_pos rfl] at hz
    subst hz
    go_enter Try.func17, Try.ntmps17
    go_wp2_with (first
      | (go_at_call 43; refine (HI0 _).mono ?_; rintro e w5 ⟨rfl, hw5⟩; have hw5' := hw5.symm; subst hw5')
      | (go_at_call 44; refine (HN.out _ HSt.out.bel).mono ?_; rintro e w1 ⟨rfl, hb1⟩))
    go_ret
    exact ⟨rfl, (HSt.out.next hb1).bel⟩
  | true =>
  rw [if_neg (by decide)] at hz
  have HB1 : Hid (bv = false → z = 2) := Lib.hid (fun h => by rw [hz, if_pos h])
  have HB2 : Hid (bv = true → br = false → z = 7) := Lib.hid (fun h h2 => by rw [hz, h, if_neg (by decide), if_pos h2])
  have HB3 : Hid (bv = true → br = true → bt = false → z = 6) := Lib.hid (fun h h2 h3 => by rw [hz, h, if_neg (by decide), h2, if_neg (by decide), if_pos h3])
  have HB4 : Hid (bv = true → br = true → bt = true → z = 0) := Lib.hid (fun h h2 h3 => by rw [hz, h, if_neg (by decide), h2, if_neg (by decide), h3, if_neg (by decide)])
  clear hz
  go_enter Try.func17, Try.ntmps17
  go_wp2_with (first
    | (go_at_call 43; refine (HI0 _).mono ?_; rintro e w5 ⟨rfl, hw5⟩; have hw5' := hw5.symm; subst hw5')
    | (go_at_call 44; refine (HN.out _ HSt.out.bel).mono ?_; rintro e w1 ⟨rfl, hb1⟩))
  have hB1 := HSt.out.next hb1
  have HBx1 := Lib.hid hB1
  clear hB1 hb1 p0c p1c p2c
  obtain ⟨hn6, hr12⟩ := H6.out
  go_loopw [3] (fun t wr => ∃ i : Nat, t = .int .i64 i ∧ i ≤ nv ∧ (∀ j, j < i → numbersF (vA vars j) = true) ∧ Pbox nm va nv vc ra nr rc w wr) (fun t _ => nv - (intOf t).toNat)
  case atStart => exact ⟨0, rfl, Nat.zero_le _, (fun j h => by omega), HBx1.out⟩
  case round =>
    obtain ⟨i, rfl, hi, hgood, hbx⟩ := hrel
    have HG := Lib.hid hgood
    have HBx := Lib.hid hbx
    have q1 := hbx.c1
    clear hgood hbx
    by_cases hlt : i < nv
    · have ilt : (i : Int) < (nv : Int) := by omega
      have i0' : (0 : Int) ≤ (i : Int) := by omega
      obtain ⟨b, o, rfl, hcell⟩ := HRv.out (by omega)
      obtain ⟨s0, s1, s2, s3, s4, s5⟩ := hcell _ HBx.out.bel i hlt
      have hnu := HNu.out i
      cases hq : numbersF (vA vars i) with
      | false =>
        have hz := HB1.out (HN1.out i hlt hq)
        subst hz
        rw [hq] at hnu
        clear hq hcell
        unfold VarV.value at hnu
        generalize vA vars i = v at *
        go_wp2_with (go_at_call 45; refine (hnu _).mono ?_; rintro e w6 ⟨rfl, hb6⟩)
        go_ret
        exact ⟨rfl, (HBx.out.next hb6).bel⟩
      | true =>
        have HG2 : Hid (∀ j, j < i + 1 → numbersF (vA vars j) = true) := Lib.hid (fun j hj => by
          rcases Nat.lt_or_ge j i with h1 | h1
          · exact HG.out j h1
          · obtain rfl : j = i := by omega
            exact hq)
        rw [hq] at hnu
        clear hq hcell
        unfold VarV.value at hnu
        generalize vA vars i = v at *
        go_wp2_with (go_at_call 45; refine (hnu _).mono ?_; rintro e w6 ⟨rfl, hb6⟩)
        go_roundw
        case rel => exact ⟨i + 1, by go_num, by omega, HG2.out, HBx.out.next hb6⟩
        case measure => simp [intOf]; omega
    · obtain rfl : nv = i := by omega
      have hbv := HA1.out HG.out
      subst hbv
      have HB2' := Lib.hid (HB2.out rfl)
      have HB3' := Lib.hid (HB3.out rfl)
      have HB4' := Lib.hid (HB4.out rfl)
      clear HB1 HB2 HB3 HB4 HN1 HA1
      go_wp2
      obtain ⟨wo, rfl⟩ : ∃ wo : World, wo = wr := ⟨_, rfl⟩
      go_loopw [4] (fun t wr => ∃ i : Nat, t = .int .i64 i ∧ i ≤ nr ∧ (∀ j, j < i → formedF (rA rules j) nv = true) ∧ Pbox nm va nv vc ra nr rc w wr) (fun t _ => nr - (intOf t).toNat)
      case atStart => exact ⟨0, rfl, Nat.zero_le _, (fun j h => by omega), HBx.out⟩
      case round =>
        obtain ⟨i, rfl, hi, hgood, hbx⟩ := hrel
        have HG := Lib.hid hgood
        have HBx := Lib.hid hbx
        have q1 := hbx.c1
        have q2 := hbx.c2
        clear hgood hbx
        by_cases hlt : i < nr
        · have ilt : (i : Int) < (nr : Int) := by omega
          have i0' : (0 : Int) ≤ (i : Int) := by omega
          obtain ⟨b, o, rfl, hcell⟩ := HRr.out (by omega)
          obtain ⟨s0, s1, s2⟩ := hcell _ HBx.out.bel i hlt
          have hfo := Lib.hid (fun W (hb : Below wr.heap.size wr W) => HFo.out i hlt W (HBx.out.next hb).bel)
          have HS := Lib.hid (fun W (hb : Below wr.heap.size wr W) => (⟨(HBx.out.next hb).c1, (HBx.out.next hb).c2, (hcell W (HBx.out.next hb).bel i hlt).1, (hcell W (HBx.out.next hb).bel i hlt).2.1, (hcell W (HBx.out.next hb).bel i hlt).2.2, hb⟩ : W.cell? ⟨w.heap.size, 1, none⟩ = some (.slice va nv vc) ∧ W.cell? ⟨w.heap.size, 2, none⟩ = some (.slice (some ⟨b, o, none⟩) nr rc) ∧ W.cell? ⟨b, o + i * 3, none⟩ = some (.string (rA rules i).name) ∧ W.cell? ⟨b, o + i * 3 + 1, none⟩ = some (.slice (rA rules i).ga (rA rules i).guard.length (rA rules i).gc) ∧ W.cell? ⟨b, o + i * 3 + 2, none⟩ = some (.slice (rA rules i).sa (rA rules i).sets.length (rA rules i).sc) ∧ Below wr.heap.size wr W))
          cases hq : formedF (rA rules i) nv with
          | false =>
            have hz := HB2'.out (HN2.out i hlt hq)
            subst hz
            rw [hq] at hfo
            clear hq hcell
            generalize rA rules i = r at *
            go_wp2
            go_region_held3 (fun w' => w'.cell? ⟨w.heap.size, 1, none⟩ = some (.slice va nv vc) ∧ w'.cell? ⟨w.heap.size, 2, none⟩ = some (.slice (some ⟨b, o, none⟩) nr rc) ∧ w'.cell? ⟨b, o + i * 3, none⟩ = some (.string r.name) ∧ w'.cell? ⟨b, o + i * 3 + 1, none⟩ = some (.slice r.ga r.guard.length r.gc) ∧ w'.cell? ⟨b, o + i * 3 + 2, none⟩ = some (.slice r.sa r.sets.length r.sc) ∧ Below wr.heap.size wr w') (first | exact HS.out _ hb9 | exact ⟨q1, q2, s0, s1, s2, Below.refl _ _⟩ | exact ⟨q1, q2, s0, s1, s2, belDraws (Below.refl _ _) _⟩) ((go_at_call 46; refine (hfo.out _ (by first | exact Below.refl _ _ | exact belDraws (Below.refl _ _) _)).mono ?_; rintro e w9 ⟨rfl, hb90⟩; have hb9 := (show Below wr.heap.size wr w9 from by first | exact hb90 | exact (belDraws (Below.refl _ _) _).trans hb90)))
            have HB9 := Lib.hid (HBx.out.next hb9)
            go_wp2_with fail
            go_ret
            exact ⟨rfl, HB9.out.bel⟩
          | true =>
            have HG2 : Hid (∀ j, j < i + 1 → formedF (rA rules j) nv = true) := Lib.hid (fun j hj => by
              rcases Nat.lt_or_ge j i with h1 | h1
              · exact HG.out j h1
              · obtain rfl : j = i := by omega
                exact hq)
            rw [hq] at hfo
            clear hq hcell
            generalize rA rules i = r at *
            go_wp2
            go_region_held3 (fun w' => w'.cell? ⟨w.heap.size, 1, none⟩ = some (.slice va nv vc) ∧ w'.cell? ⟨w.heap.size, 2, none⟩ = some (.slice (some ⟨b, o, none⟩) nr rc) ∧ w'.cell? ⟨b, o + i * 3, none⟩ = some (.string r.name) ∧ w'.cell? ⟨b, o + i * 3 + 1, none⟩ = some (.slice r.ga r.guard.length r.gc) ∧ w'.cell? ⟨b, o + i * 3 + 2, none⟩ = some (.slice r.sa r.sets.length r.sc) ∧ Below wr.heap.size wr w') (first | exact HS.out _ hb9 | exact ⟨q1, q2, s0, s1, s2, Below.refl _ _⟩ | exact ⟨q1, q2, s0, s1, s2, belDraws (Below.refl _ _) _⟩) ((go_at_call 46; refine (hfo.out _ (by first | exact Below.refl _ _ | exact belDraws (Below.refl _ _) _)).mono ?_; rintro e w9 ⟨rfl, hb90⟩; have hb9 := (show Below wr.heap.size wr w9 from by first | exact hb90 | exact (belDraws (Below.refl _ _) _).trans hb90)))
            have HB9 := Lib.hid (HBx.out.next hb9)
            go_wp2_with fail
            go_roundw
            case rel => exact ⟨i + 1, by go_num, by omega, HG2.out, HB9.out⟩
            case measure => simp [intOf]; omega
        · obtain rfl : nr = i := by omega
          have hbr := HA2.out HG.out
          subst hbr
          have HFm := HG
          have HB3'' := Lib.hid (HB3'.out rfl)
          have HB4'' := Lib.hid (HB4'.out rfl)
          clear HB2' HB3' HB4' HN2 HA2
          go_wp2
          obtain ⟨wo, rfl⟩ : ∃ wo : World, wo = wr := ⟨_, rfl⟩
          go_loopw [5] (fun t wr => ∃ i : Nat, t = .int .i64 i ∧ i ≤ nr ∧ (∀ j, j < i → typedF (rA rules j) ks = true) ∧ Pbox nm va nv vc ra nr rc w wr) (fun t _ => nr - (intOf t).toNat)
          case atStart => exact ⟨0, rfl, Nat.zero_le _, (fun j h => by omega), HBx.out⟩
          case round =>
            obtain ⟨i, rfl, hi, hgood, hbx⟩ := hrel
            have HG := Lib.hid hgood
            have HBx := Lib.hid hbx
            have q0 := hbx.c0
            have q1 := hbx.c1
            have q2 := hbx.c2
            clear hgood hbx
            by_cases hlt : i < nr
            · have ilt : (i : Int) < (nr : Int) := by omega
              have i0' : (0 : Int) ≤ (i : Int) := by omega
              obtain ⟨b, o, rfl, hcell⟩ := HRr.out (by omega)
              obtain ⟨s0, s1, s2⟩ := hcell _ HBx.out.bel i hlt
              have hty := Lib.hid (fun (a : Option Addr) (c : Nat) W (hb : Below wr.heap.size wr W) (hI : IntsAt W a ks) => HTy.out i hlt (HFm.out i hlt) a c W (HBx.out.next hb).bel hI)
              have hkd := Lib.hid (fun W (hb : Below wr.heap.size wr W) => HKd.out W (HBx.out.next hb).bel)
              have HS := Lib.hid (fun W (hb : Below wr.heap.size wr W) => (⟨(HBx.out.next hb).c0, (HBx.out.next hb).c1, (HBx.out.next hb).c2, (hcell W (HBx.out.next hb).bel i hlt).1, (hcell W (HBx.out.next hb).bel i hlt).2.1, (hcell W (HBx.out.next hb).bel i hlt).2.2, hb⟩ : W.cell? ⟨w.heap.size, 0, none⟩ = some (.string nm) ∧ W.cell? ⟨w.heap.size, 1, none⟩ = some (.slice va nv vc) ∧ W.cell? ⟨w.heap.size, 2, none⟩ = some (.slice (some ⟨b, o, none⟩) nr rc) ∧ W.cell? ⟨b, o + i * 3, none⟩ = some (.string (rA rules i).name) ∧ W.cell? ⟨b, o + i * 3 + 1, none⟩ = some (.slice (rA rules i).ga (rA rules i).guard.length (rA rules i).gc) ∧ W.cell? ⟨b, o + i * 3 + 2, none⟩ = some (.slice (rA rules i).sa (rA rules i).sets.length (rA rules i).sc) ∧ Below wr.heap.size wr W))
              cases hq : typedF (rA rules i) ks with
              | false =>
                have hz := HB3''.out (HN3.out i hlt hq)
                subst hz
                rw [hq] at hty
                clear hq hcell
                generalize rA rules i = r at *
                unfold RuleV.value at hty
                go_wp2
                go_region_held3 (fun w' => w'.cell? ⟨w.heap.size, 0, none⟩ = some (.string nm) ∧ w'.cell? ⟨w.heap.size, 1, none⟩ = some (.slice va nv vc) ∧ w'.cell? ⟨w.heap.size, 2, none⟩ = some (.slice (some ⟨b, o, none⟩) nr rc) ∧ w'.cell? ⟨b, o + i * 3, none⟩ = some (.string r.name) ∧ w'.cell? ⟨b, o + i * 3 + 1, none⟩ = some (.slice r.ga r.guard.length r.gc) ∧ w'.cell? ⟨b, o + i * 3 + 2, none⟩ = some (.slice r.sa r.sets.length r.sc) ∧ Below wr.heap.size wr w') (first | exact HS.out _ hb9 | exact HS.out _ hb8 | exact HS.out _ (belDraws hb8 _) | exact ⟨q0, q1, q2, s0, s1, s2, Below.refl _ _⟩ | exact ⟨q0, q1, q2, s0, s1, s2, belDraws (Below.refl _ _) _⟩) ((first | (go_at_call 48; refine (hkd.out _ (by first | exact Below.refl _ _ | exact belDraws (Below.refl _ _) _)).mono ?_; rintro e w8 ⟨⟨a8, c8, rfl, hI8⟩, hb80⟩; have hb8 := (show Below wr.heap.size wr w8 from by first | exact hb80 | exact (belDraws (Below.refl _ _) _).trans hb80)) | (go_at_call 47; refine (hty.out _ _ _ hb8 hI8).mono ?_; rintro e w9 ⟨rfl, hb90⟩; have hb9 := hb8.trans (hb90.mono hb8.size))))
                have HB9 := Lib.hid (HBx.out.next hb9)
                go_wp2_with fail
                go_ret
                exact ⟨rfl, HB9.out.bel⟩
              | true =>
                have HG2 : Hid (∀ j, j < i + 1 → typedF (rA rules j) ks = true) := Lib.hid (fun j hj => by
                  rcases Nat.lt_or_ge j i with h1 | h1
                  · exact HG.out j h1
                  · obtain rfl : j = i := by omega
                    exact hq)
                rw [hq] at hty
                clear hq hcell
                generalize rA rules i = r at *
                unfold RuleV.value at hty
                go_wp2
                go_region_held3 (fun w' => w'.cell? ⟨w.heap.size, 0, none⟩ = some (.string nm) ∧ w'.cell? ⟨w.heap.size, 1, none⟩ = some (.slice va nv vc) ∧ w'.cell? ⟨w.heap.size, 2, none⟩ = some (.slice (some ⟨b, o, none⟩) nr rc) ∧ w'.cell? ⟨b, o + i * 3, none⟩ = some (.string r.name) ∧ w'.cell? ⟨b, o + i * 3 + 1, none⟩ = some (.slice r.ga r.guard.length r.gc) ∧ w'.cell? ⟨b, o + i * 3 + 2, none⟩ = some (.slice r.sa r.sets.length r.sc) ∧ Below wr.heap.size wr w') (first | exact HS.out _ hb9 | exact HS.out _ hb8 | exact HS.out _ (belDraws hb8 _) | exact ⟨q0, q1, q2, s0, s1, s2, Below.refl _ _⟩ | exact ⟨q0, q1, q2, s0, s1, s2, belDraws (Below.refl _ _) _⟩) ((first | (go_at_call 48; refine (hkd.out _ (by first | exact Below.refl _ _ | exact belDraws (Below.refl _ _) _)).mono ?_; rintro e w8 ⟨⟨a8, c8, rfl, hI8⟩, hb80⟩; have hb8 := (show Below wr.heap.size wr w8 from by first | exact hb80 | exact (belDraws (Below.refl _ _) _).trans hb80)) | (go_at_call 47; refine (hty.out _ _ _ hb8 hI8).mono ?_; rintro e w9 ⟨rfl, hb90⟩; have hb9 := hb8.trans (hb90.mono hb8.size))))
                have HB9 := Lib.hid (HBx.out.next hb9)
                go_wp2_with fail
                go_roundw
                case rel => exact ⟨i + 1, by go_num, by omega, HG2.out, HB9.out⟩
                case measure => simp [intOf]; omega
            · obtain rfl : nr = i := by omega
              have hz := HB4''.out (HA3.out HG.out)
              subst hz
              go_wp2
              go_ret
              exact ⟨rfl, HBx.out.bel⟩
theorem validR7_any (p : ProgV) (w : World) (hP : p.At w) (hF : p.Few) :
    Calls Try.prog 19 #[p.value] w fun e w' => e = .returned (.bool (decide (checkF p = 0))) ∧ Below w.heap.size w w' := by
  have HC := Lib.hid (fun W (hb : Below w.heap.size w W) => checkR_any p W (hP.below hb) hF)
  generalize checkF p = z at *
  unfold ProgV.value at *
  obtain ⟨nm, va, vc, vars, ra, rc, rules⟩ := p
  dsimp only at *
  clear hP hF
  generalize vars.length = nv at *
  generalize rules.length = nr at *
  go_enter Try.func19, Try.ntmps19
  go_wp2_with (go_at_call 17; refine (HC.out _ (below_alloc7 _ _)).mono ?_; rintro e w1 ⟨rfl, hb1⟩)
  go_ret
  exact ⟨by first | rfl | exact ret_bool (by simp) | simp, belT hb1⟩
end Go.Proofs.Ytckofngclgkajaa
