/- What typed of the program's types answers. -/
import Derived.Test.YtckofngclgkajaaTypK4
import Derived.Deep.RegionHeld3
namespace Go.Proofs.Ytckofngclgkajaa
set_option maxRecDepth 100000
open Go.RowKit Go.Maps

theorem Pbox.grownNew {s : ByteArray} {va ra : Option Addr} {n vc m rc : Nat} {w wr w2 : World} (h : Pbox s va n vc ra m rc w wr) (hg : wr.grownBy w2 none) : Pbox s va n vc ra m rc w w2 :=
  Below.grown (show Below (w.heap.size + 1) _ wr from h) hg (by have := Below.size h; simpa using this) (by intro k e; cases e)
theorem Pbox.setOwn {s : ByteArray} {va ra : Option Addr} {n vc m rc : Nat} {w wr : World} {g i : Nat} (h : Pbox s va n vc ra m rc w wr) (hg : w.heap.size + 1 ≤ g) (v : Value) : Pbox s va n vc ra m rc w (wr.setCell ⟨g, i, none⟩ v) :=
  Below.setCell (show Below (w.heap.size + 1) _ wr from h) (p := ⟨g, i, none⟩) hg v
def RuleV.Few7 (r : RuleV) : Prop := r.Few
set_option maxHeartbeats 8000000 in
theorem typedP_any (p : ProgV) (w : World) (hP : p.At w) (hv1 : 1 ≤ p.vars.length) (hv : p.vars.length ≤ 6) (hr : p.rules.length ≤ 1000) (hF : ∀ r ∈ p.rules, r.Few) (hfo : ∀ r ∈ p.rules, formedF r p.vars.length = true) :
    Calls Try.prog 42 #[p.value] w fun e w' => e = .returned (.bool (p.rules.all fun r => typedF r (p.vars.map VarV.kind))) ∧ Below w.heap.size w w' := by
  obtain ⟨z, hz⟩ : ∃ z, z = (p.rules.all fun r => typedF r (p.vars.map VarV.kind)) := ⟨_, rfl⟩
  rw [← hz]
  obtain ⟨ks, hks⟩ : ∃ ks, ks = p.vars.map VarV.kind := ⟨_, rfl⟩
  rw [← hks] at hz
  have hkl : ks.length = p.vars.length := by rw [hks, List.length_map]
  have HKf : Hid (∀ k ∈ ks, I64 k) := Lib.hid (fun k hk => by
    rw [hks] at hk
    obtain ⟨v, hv, rfl⟩ := List.mem_map.1 hk
    exact (hP.vars v hv).2.1)
  have HKa : Hid (∀ i, i < p.vars.length → (vA p.vars i).kind = idA ks i) := Lib.hid (fun i hi => by rw [hks, kinds_at hi])
  have HBr : Hid (∀ i, i < p.rules.length → typedF (rA p.rules i) ks = false → z = false) := Lib.hid (fun i hi hb => by rw [hz]; exact not_all_rA (f := fun r => typedF r ks) hi hb)
  have HYes : Hid ((∀ i, i < p.rules.length → typedF (rA p.rules i) ks = true) → z = true) := Lib.hid (fun h => by rw [hz]; exact all_rA (f := fun r => typedF r ks) h)
  have HRv := Lib.hid (fun h => row_var hP.vrow h)
  have HRr := Lib.hid (fun h => row_rule hP.rrow h)
  have HRu : Hid (∀ i, i < p.rules.length → (rA p.rules i).At w ∧ (rA p.rules i).Few ∧ formedF (rA p.rules i) p.vars.length = true) := Lib.hid (fun i hi => by
    rw [rA_eq hi]
    exact ⟨hP.rules _ (List.getElem_mem hi), hF _ (List.getElem_mem hi), hfo _ (List.getElem_mem hi)⟩)
  clear hz hks hP hF hfo
  obtain ⟨nm, va, vc, vars, ra, rc, rules⟩ := p
  dsimp only at *
  unfold ProgV.value
  dsimp only
  generalize vars.length = nv at *
  generalize rules.length = nr at *
  have HKl := Lib.hid hkl
  clear hkl
  have hst : Pbox nm va nv vc ra nr rc w (w.alloc (.cells #[.string nm, .slice va nv vc, .slice ra nr rc] 33)) := Below.refl _ _
  have HSt := Lib.hid hst
  clear hst
  obtain ⟨i0, hi0, hz0, hz1, hz2⟩ := info_parts infoInt
  have nv0 : (0 : Int) ≤ (nv : Int) := by omega
  go_enter Try.func42, Try.ntmps42
  go_wp2_with (at_make; refine wpList_make_full _ rfl _ _ 23 rfl w.heap.size 3 i0 (.int .i64 0) 1 Try.underlying23 hi0 hz0 hz1 _ _ _ _ nv rfl rfl rfl rfl (by rw [hz2]; omega) (by unfold maxLen; omega) (by simp) ?_; intro w1 hown1 hg1; have hB1 := HSt.out.grownNew hg1; have l1 := hB1.c1)
  have hg0 : (w.alloc (.cells #[.string nm, .slice va nv vc, .slice ra nr rc] 33)).heap.size = w.heap.size + 1 := by simp
  have hlt1 : w.heap.size + 1 < w1.heap.size := by
    have := (World.ownsRow.lt hown1 _ rfl).2
    rw [← hg0]
    exact this
  have hK1 : KRow w1 (w.heap.size + 1) nv ks 0 := by
    rw [← hg0]
    exact KRow.made hown1
  have HK1 := Lib.hid hK1
  have HB1 := Lib.hid hB1
  have HLt1 := Lib.hid hlt1
  clear hK1 hB1 hlt1 hown1 hg1 hg0 l1
  generalize hge : w.heap.size + 1 = g at *
  go_loopw [17] (fun t wr => ∃ i : Nat, t = .int .i64 i ∧ i ≤ nv ∧ Pbox nm va nv vc ra nr rc w wr ∧ KRow wr g nv ks i ∧ g < wr.heap.size) (fun t _ => nv - (intOf t).toNat)
  case atStart => exact ⟨0, rfl, Nat.zero_le _, HB1.out, HK1.out, HLt1.out⟩
  case round =>
    obtain ⟨i, rfl, hi, hbx, hkr, hsz⟩ := hrel
    have HBx := Lib.hid hbx
    have HKr := Lib.hid hkr
    have HSz := Lib.hid hsz
    clear hkr hsz
    have q2 := hbx.c2
    clear hbx
    by_cases hlt : i < nv
    · have ilt : (i : Int) < (nv : Int) := by omega
      have i0' : (0 : Int) ≤ (i : Int) := by omega
      obtain ⟨b, o, rfl, hcell⟩ := HRv.out (by omega)
      obtain ⟨s0, s1, s2, s3, s4, s5⟩ := hcell _ HBx.out.bel i hlt
      have hkd := HKa.out i hlt
      rw [hkd] at s1
      have hf : ∀ O, ∃ v, (wr.alloc O).cell? ⟨g, i, none⟩ = some v ∧ (wr.alloc O).frozen? ⟨g, i, none⟩ = false := fun O => by
        obtain ⟨⟨v, h1, _⟩, h2⟩ := (HKr.out.far (below_alloc7 wr O) HSz.out) i hlt
        exact ⟨v, h1, h2⟩
      obtain ⟨v0, hcv, hfv⟩ := hf (.cells #[.string (vA vars i).name, .int .i64 (idA ks i), .int .i64 (vA vars i).lo, .int .i64 (vA vars i).hi, .int .i64 (vA vars i).pn, .int .i64 (vA vars i).pid] 56)
      have HP1 := Lib.hid (((HKr.out.far (below_alloc7 wr (.cells #[.string (vA vars i).name, .int .i64 (idA ks i), .int .i64 (vA vars i).lo, .int .i64 (vA vars i).hi, .int .i64 (vA vars i).pn, .int .i64 (vA vars i).pid] 56)) HSz.out).put hlt))
      have HP2 := Lib.hid ((HKr.out.put hlt).far (below_alloc7 (wr.setCell ⟨g, i, none⟩ (.int .i64 (idA ks i))) (.cells #[.string (vA vars i).name, .int .i64 (idA ks i), .int .i64 (vA vars i).lo, .int .i64 (vA vars i).hi, .int .i64 (vA vars i).pn, .int .i64 (vA vars i).pid] 56)) (by rw [size_set7]; exact HSz.out))
      have HX1 := Lib.hid ((HBx.out.next (below_alloc7 wr (.cells #[.string (vA vars i).name, .int .i64 (idA ks i), .int .i64 (vA vars i).lo, .int .i64 (vA vars i).hi, .int .i64 (vA vars i).pn, .int .i64 (vA vars i).pid] 56))).setOwn (g := g) (i := i) (by omega) (.int .i64 (idA ks i)))
      have HX2 := Lib.hid ((HBx.out.setOwn (g := g) (i := i) (by omega) (.int .i64 (idA ks i))).next (below_alloc7 (wr.setCell ⟨g, i, none⟩ (.int .i64 (idA ks i))) (.cells #[.string (vA vars i).name, .int .i64 (idA ks i), .int .i64 (vA vars i).lo, .int .i64 (vA vars i).hi, .int .i64 (vA vars i).pn, .int .i64 (vA vars i).pid] 56)))
      clear hcell hkd hf
      generalize idA ks i = y at *
      go_wp2
      go_roundw
      case rel => exact ⟨i + 1, by go_num, by omega, by first | exact HX1.out | exact HX2.out, by first | exact HP1.out | exact HP2.out, by have := HSz.out; simp; omega⟩
      case measure => simp [intOf]; omega
    · obtain rfl : nv = i := by omega
      have hIn := HKr.out.ints HKl.out (by omega) HSz.out HKf.out
      have HIn := Lib.hid hIn
      clear hIn
      go_wp2
      obtain ⟨wk, rfl⟩ : ∃ wk : World, wk = wr := ⟨_, rfl⟩
      go_loopw [31] (fun t wr => ∃ i : Nat, t = .int .i64 i ∧ i ≤ nr ∧ (∀ j, j < i → typedF (rA rules j) ks = true) ∧ Below wk.heap.size wk wr) (fun t _ => nr - (intOf t).toNat)
      case atStart => exact ⟨0, rfl, Nat.zero_le _, (fun j h => by omega), Below.refl _ _⟩
      case round =>
        obtain ⟨i, rfl, hi, hgood, hbl⟩ := hrel
        have HG := Lib.hid hgood
        have HBl := Lib.hid hbl
        have HBw := Lib.hid (HBx.out.next hbl).bel
        clear hgood hbl
        by_cases hlt : i < nr
        · have ilt : (i : Int) < (nr : Int) := by omega
          have i0' : (0 : Int) ≤ (i : Int) := by omega
          obtain ⟨b, o, rfl, hcell⟩ := HRr.out (by omega)
          obtain ⟨s0, s1, s2⟩ := hcell _ HBw.out i hlt
          obtain ⟨hAt, hFew, hfo⟩ := HRu.out i hlt
          obtain ⟨hm1, hm6, hvg, hset⟩ := formed_parts hfo
          have hTi : typedF (rA rules i) ks = true ↔ kindL (rA rules i).guard ks = 2 ∧ ∀ k, k < (rA rules i).sets.length → TyOk (rA rules i).sets ks k := typed_iff
          have HNo : Hid (typedF (rA rules i) ks = false → z = false) := Lib.hid (HBr.out i hlt)
          have HTi := Lib.hid hTi
          have HGo : Hid (typedF (rA rules i) ks = true → ∀ j, j < i + 1 → typedF (rA rules j) ks = true) := Lib.hid (fun h j hj => by
            rcases Nat.lt_or_ge j i with h1 | h1
            · exact HG.out j h1
            · obtain rfl : j = i := by omega
              exact h)
          clear hcell hfo hTi
          generalize typedF (rA rules i) ks = tz at *
          generalize rA rules i = r at *
          obtain ⟨rnm, ga, gc, guard, sa, sc, sets⟩ := r
          dsimp only at *
          have HTg := Lib.hid (fun W (hb : Below wr.heap.size wr W) => typeOfL_any ga gc guard (some ⟨g, 0, none⟩) nv ks W (hAt.links.below (HBw.out.trans (hb.mono HBw.out.size))) (HIn.out.below (HBl.out.trans (hb.mono HBl.out.size))) hFew.1 hAt.cap (by rw [HKl.out]; exact hvg))
          rw [HKl.out] at HTg
          have HRs := Lib.hid (fun h => row_sets7 hAt.row hAt.sets h)
          have HSl : Hid (∀ k, k < sets.length → (seA sets k).length ≤ 1000) := Lib.hid (fun k hk => by rw [seA_eq hk]; exact hFew.2 _ (List.getElem_mem hk))
          have HSet := Lib.hid hset
          clear hAt hFew hvg hset
          generalize hm : sets.length = m at *
          generalize kindL guard ks = kg at *
          generalize guard.length = gl at *
          by_cases hkg : kg = 2
          case neg =>
            have hzf := HNo.out (by cases htz : tz with | false => rfl | true => exact absurd (HTi.out.1 htz).1 hkg)
            subst hzf
            have kg1 : (kg != 2) = true := by simpa using hkg
            clear hkg
            go_wp2_with (go_at_call 32; refine (HTg.out _ (below_alloc7 _ _)).mono ?_; rintro e w6 ⟨rfl, hb6⟩)
            go_ret
            exact ⟨rfl, HBw.out.trans ((belT hb6).mono HBw.out.size)⟩
          subst hkg
          go_wp2_with (go_at_call 32; refine (HTg.out _ (below_alloc7 _ _)).mono ?_; rintro e w6 ⟨rfl, hb6⟩; have l6 : w6.cell? ⟨wr.heap.size, 2, none⟩ = some (.slice sa m sc) := boxT hb6 2)
          have hb7 := belT hb6
          have HB7 := Lib.hid (HBl.out.trans (hb7.mono HBl.out.size))
          have HW7 := Lib.hid (HBw.out.trans (hb7.mono HBw.out.size))
          clear hb6 hb7 l6
          obtain ⟨w6', rfl⟩ : ∃ w6' : World, w6' = w6 := ⟨_, rfl⟩
          obtain ⟨wo, rfl⟩ : ∃ wo : World, wo = wr := ⟨_, rfl⟩
          go_loopw [43] (fun t wr => ∃ k : Nat, t = .int .i64 k ∧ k ≤ m ∧ (∀ j, j < k → TyOk sets ks j) ∧ Below w6'.heap.size w6' wr) (fun t _ => m - (intOf t).toNat)
          case atStart => exact ⟨0, rfl, Nat.zero_le _, (fun j h => by omega), Below.refl _ _⟩
          case round =>
            obtain ⟨k, rfl, hk, hty, hbl2⟩ := hrel
            have HTy := Lib.hid hty
            have HBl2 := Lib.hid hbl2
            have HWr := Lib.hid (HW7.out.trans (hbl2.mono HW7.out.size))
            have HKr2 := Lib.hid (HB7.out.trans (hbl2.mono HB7.out.size))
            clear hty hbl2
            by_cases hkl2 : k < m
            · have klt : (k : Int) < (m : Int) := by omega
              have k0 : (0 : Int) ≤ (k : Int) := by omega
              obtain ⟨b2, o2, rfl, hcell⟩ := HRs.out (by omega)
              obtain ⟨u0, x, c, u1, hX, hcp⟩ := hcell _ HWr.out k hkl2
              have hso := HSet.out k hkl2
              obtain ⟨d, hd, hdn⟩ := set_ix hso
              obtain ⟨kg2, ko2, ek, hkg2, hkc2⟩ := (HIn.out.below HKr2.out).row (by have := HKl.out; omega)
              injection ek with ek
              injection ek with ek1 ek2
              subst ek1 ek2
              have hcd := hkc2 d (by have := HKl.out; omega)
              rw [Nat.zero_add] at hcd
              have HTv := Lib.hid (fun W (hb : Below wr.heap.size wr W) => typeOfL_any x c (seA sets k) (some ⟨g, 0, none⟩) nv ks W (hX.below hb) ((HIn.out.below HKr2.out).below hb) (HSl.out k hkl2) hcp (by rw [HKl.out]; exact hso.2.1))
              rw [HKl.out] at HTv
              have HOk : Hid (TyOk sets ks k ↔ kindL (seA sets k) ks = idA ks d) := Lib.hid (by unfold TyOk; rw [hd, Int.toNat_natCast])
              rw [hd] at u0
              have d0 : (0 : Int) ≤ (d : Int) := by omega
              have dn : (d : Int) < (nv : Int) := by omega
              have hcA : ∀ O, (wr.alloc O).cell? ⟨g, d, none⟩ = some (.int .i64 (idA ks d)) := fun O => ((below_alloc7 wr O).cell (p := ⟨g, d, none⟩) hkg2).trans hcd
              have HcA := Lib.hid (fun W (hb : Below wr.heap.size wr W) => (hb.cell (p := ⟨g, d, none⟩) hkg2).trans hcd)
              clear hcell hso hd hkc2 hX hcp hcd
              generalize kindL (seA sets k) ks = kv at *
              generalize (seA sets k).length = l at *
              generalize idA ks d = kd at *
              obtain ⟨wA, hwA⟩ : ∃ wA, wA = wr.alloc (.cells #[.int .i64 (d : Int), .slice x l c] 54) := ⟨_, rfl⟩
              have a0 : wA.cell? ⟨wr.heap.size, 0, none⟩ = some (.int .i64 (d : Int)) := by rw [hwA]; exact World.cell?_alloc_new wr _ _ 0
              have a1 : wA.cell? ⟨wr.heap.size, 1, none⟩ = some (.slice x l c) := by rw [hwA]; exact World.cell?_alloc_new wr _ _ 1
              have a2 : wA.cell? ⟨g, d, none⟩ = some (.int .i64 kd) := by rw [hwA]; exact hcA _
              have hbA : Below wr.heap.size wr wA := by rw [hwA]; exact below_alloc7 _ _
              have hszA : wr.heap.size < wA.heap.size := by rw [hwA]; simp
              have HBA := Lib.hid hbA
              have HA3 := Lib.hid (fun W (hb : Below wA.heap.size wA W) => (⟨(hb.cell (p := ⟨wr.heap.size, 0, none⟩) hszA).trans a0, (hb.cell (p := ⟨wr.heap.size, 1, none⟩) hszA).trans a1, (hb.cell (p := ⟨g, d, none⟩) (Nat.lt_trans hkg2 hszA)).trans a2, hb⟩ : W.cell? ⟨wr.heap.size, 0, none⟩ = some (.int .i64 (d : Int)) ∧ W.cell? ⟨wr.heap.size, 1, none⟩ = some (.slice x l c) ∧ W.cell? ⟨g, d, none⟩ = some (.int .i64 kd) ∧ Below wA.heap.size wA W))
              clear hcA hkg2
              by_cases hkk : kv = kd
              · have hTk := HOk.out.2 hkk
                have HTy2 : Hid (∀ j, j < k + 1 → TyOk sets ks j) := Lib.hid (fun j hj => by
                  rcases Nat.lt_or_ge j k with h1 | h1
                  · exact HTy.out j h1
                  · obtain rfl : j = k := by omega
                    exact hTk)
                clear hTk HOk
                subst hkk
                have kk : (kv != kv) = false := by simp
                go_wp2
                rw [← hwA]
                clear hwA
                go_region_held3 (fun w' => w'.cell? ⟨wr.heap.size, 0, none⟩ = some (.int .i64 (d : Int)) ∧ w'.cell? ⟨wr.heap.size, 1, none⟩ = some (.slice x l c) ∧ w'.cell? ⟨g, d, none⟩ = some (.int .i64 kv) ∧ Below wA.heap.size wA w') (first | exact HA3.out _ hb9 | exact ⟨a0, a1, a2, Below.refl _ _⟩ | exact ⟨a0, a1, a2, belDraws (Below.refl _ _) _⟩) ((go_at_call 32; refine (HTv.out _ (by first | exact HBA.out | exact belDraws HBA.out _)).mono ?_; rintro e w9 ⟨rfl, hb90⟩; have hb9 := (show Below wA.heap.size wA w9 from by first | exact hb90 | exact (belDraws (Below.refl _ _) _).trans hb90)))
                have HB9 := Lib.hid (HBA.out.trans (hb9.mono HBA.out.size))
                go_wp2_with fail
                go_roundw
                case rel => exact ⟨k + 1, by go_num, by omega, HTy2.out, HBl2.out.trans (HB9.out.mono HBl2.out.size)⟩
                case measure => simp [intOf]; omega
              · have hTk : ¬ TyOk sets ks k := fun h => hkk (HOk.out.1 h)
                have hzf := HNo.out (by cases htz : tz with | false => rfl | true => exact absurd ((HTi.out.1 htz).2 k hkl2) hTk)
                subst hzf
                have kk : (kv != kd) = true := by simpa using hkk
                clear hTk HOk hkk
                go_wp2
                rw [← hwA]
                clear hwA
                go_region_held3 (fun w' => w'.cell? ⟨wr.heap.size, 0, none⟩ = some (.int .i64 (d : Int)) ∧ w'.cell? ⟨wr.heap.size, 1, none⟩ = some (.slice x l c) ∧ w'.cell? ⟨g, d, none⟩ = some (.int .i64 kd) ∧ Below wA.heap.size wA w') (first | exact HA3.out _ hb9 | exact ⟨a0, a1, a2, Below.refl _ _⟩ | exact ⟨a0, a1, a2, belDraws (Below.refl _ _) _⟩) ((go_at_call 32; refine (HTv.out _ (by first | exact HBA.out | exact belDraws HBA.out _)).mono ?_; rintro e w9 ⟨rfl, hb90⟩; have hb9 := (show Below wA.heap.size wA w9 from by first | exact hb90 | exact (belDraws (Below.refl _ _) _).trans hb90)))
                have HB9 := Lib.hid (HBA.out.trans (hb9.mono HBA.out.size))
                go_wp2_with fail
                go_ret
                exact ⟨rfl, HWr.out.trans (HB9.out.mono HWr.out.size)⟩
            · obtain rfl : m = k := by omega
              have htz := HTi.out.2 ⟨by trivial, HTy.out⟩
              have HG2 := Lib.hid (HGo.out htz)
              go_wp2
              go_roundw
              case rel => exact ⟨i + 1, by go_num, by omega, HG2.out, HKr2.out⟩
              case measure => simp [intOf]; omega
        · obtain rfl : nr = i := by omega
          have hyes := HYes.out HG.out
          subst hyes
          go_wp2
          go_ret
          exact ⟨rfl, HBw.out⟩
end Go.Proofs.Ytckofngclgkajaa
