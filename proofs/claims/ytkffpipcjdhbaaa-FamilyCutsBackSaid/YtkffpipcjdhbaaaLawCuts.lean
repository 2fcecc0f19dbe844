/- Cut of the link that Connect has added returns the graph, and a new link makes no distance longer. No conditions: every input. -/
import Derived.Test.YtkffpipcjdhbaaaLaw3
import Derived.Test.YtkffpipcjdhbaaaConnMath
import Derived.Test.YtkffpipcjdhbaaaKeep2
import Derived.OpenShut
import Derived.ChangeOld
import Derived.Deep.RegionHeld3
namespace Go.Proofs.Ytkffpipcjdhbaaa.lawFamilyCutsBack
open Go.ChangeShapes Go.WideShapes Go.ChangeAt Go.RowKit
set_option linter.unusedVariables false

/-- the struct at A holds a graph -/
structure BoxG (w : World) (A : Nat) (a1 : Option Addr) (l1 c1 : Nat) (a2 : Option Addr) (l2 c2 : Nat) (G : Gr) : Prop where
  c0 : w.cell? ⟨A, 0, none⟩ = some (.slice a1 l1 c1)
  c1 : w.cell? ⟨A, 1, none⟩ = some (.slice a2 l2 c2)
  g : GraphAt w a1 l1 a2 l2 G
theorem BoxG.below {w w' : World} {A : Nat} {a1 : Option Addr} {l1 c1 : Nat} {a2 : Option Addr} {l2 c2 : Nat} {G : Gr} (h : BoxG w A a1 l1 c1 a2 l2 c2 G) (hb : Below w.heap.size w w') : BoxG w' A a1 l1 c1 a2 l2 c2 G :=
  ⟨(hb.cell (p := ⟨A, 0, none⟩) (cell_lt h.c0)).trans h.c0, (hb.cell (p := ⟨A, 1, none⟩) (cell_lt h.c1)).trans h.c1, h.g.below hb⟩
theorem BoxG.make {w : World} {a1 : Option Addr} {l1 c1 : Nat} {a2 : Option Addr} {l2 c2 : Nat} {G : Gr} {t : TypeId} (h : GraphAt w a1 l1 a2 l2 G) : BoxG (w.alloc (.cells #[.slice a1 l1 c1, .slice a2 l2 c2] t)) w.heap.size a1 l1 c1 a2 l2 c2 G :=
  ⟨by simp [cell_push0], by simp [cell_push0], h.alloc _⟩
theorem below_alloc (w : World) (o : Obj) : Below w.heap.size w (w.alloc o) := (Below.refl _ _).alloc (Nat.le_refl _) o

theorem conn_parts {G H : Gr} {a b wt : Int} (h : connO G a b wt = .inr H) (hv : validB G = true) : nodesB G.ps.length a b = true ∧ portF (rowA G.ps a.toNat) b < 0 ∧ (1 ≤ wt ∧ wt ≤ 15) ∧ H = connG G a.toNat b.toNat wt := by
  unfold connO at h
  rw [if_pos hv] at h
  split at h
  · rename_i h1
    obtain ⟨h2, h3, h4⟩ := h1
    unfold inB at h4
    simp only [decide_eq_true_eq] at h4
    cases h
    exact ⟨h2, h3, h4, rfl⟩
  · cases h

set_option maxRecDepth 100000 in
set_option maxHeartbeats 1000000 in
theorem walk (w : World) (ia : Option Addr) (il ic : Nat) (pa : Option Addr) (pl pc : Nat) (G : Gr) (hG : GraphAt w ia il pa pl G) (a1 : Int) (wf1 : (Lit.int .i64 a1).wf = true) (a2 : Int) (wf2 : (Lit.int .i64 a2).wf = true) (a3 : Int) (wf3 : (Lit.int .i64 a3).wf = true) (a4 : Int) (wf4 : (Lit.int .i64 a4).wf = true) :
    Calls Try.prog 9 #[.agg #[.slice ia il ic, .slice pa pl pc], .int .i64 a1, .int .i64 a2, .int .i64 a3, .int .i64 a4] w fun e w' => e = .returned (.bool true) ∧ Below w.heap.size w w' := by
  have hpl := hG.pl
  have h4 := wf_I64 wf4
  have H4 := Lib.hid h4
  have hB0 := BoxG.make (c1 := ic) (c2 := pc) (t := 26) hG
  have HB0 := Lib.hid hB0
  have hT0 := below_alloc w (.cells #[.slice ia il ic, .slice pa pl pc] 26)
  have HT0 := Lib.hid hT0
  have Hpl := Lib.hid hpl
  clear wf1 wf2 wf3 wf4 h4 hpl hG hB0 hT0
  have ENT : Hid (∀ u : World, Below (w.alloc (.cells #[.slice ia il ic, .slice pa pl pc] 26)).heap.size (w.alloc (.cells #[.slice ia il ic, .slice pa pl pc] 26)) u → BoxG u w.heap.size ia il ic pa pl pc G) := Lib.hid (fun u hb => HB0.out.below hb)
  cases hl : lightB G with
  | false =>
    go_enter Try.func9, Try.ntmps9
    go_wp2_with fail
    refine (light_any _ _ _ _ _ _ G _ HB0.out.g).mono ?_
    rintro e w1 ⟨rfl, hb1⟩
    rw [hl]
    go_wp2_with fail
    refine (awake_any _).mono ?_
    rintro e w2 ⟨rfl, hb2⟩
    go_wp2_with fail
    go_ret
    have hT := HT0.out.trans (hb1.mono HT0.out.size)
    exact ⟨rfl, hT.trans (hb2.mono hT.size)⟩
  | true =>
  cases hv : validB G with
  | false =>
    go_enter Try.func9, Try.ntmps9
    go_wp2_with fail
    refine (light_any _ _ _ _ _ _ G _ HB0.out.g).mono ?_
    rintro e w1 ⟨rfl, hb1⟩
    rw [hl]
    have hB1 := HB0.out.below hb1
    have z0 := hB1.c0
    have z1 := hB1.c1
    go_wp2_with fail
    refine (refValid_any _ _ _ _ _ _ G _ hB1.g).mono ?_
    rintro e w2 ⟨rfl, hb2⟩
    rw [hv]
    go_wp2_with fail
    refine (awake_any _).mono ?_
    rintro e w3 ⟨rfl, hb3⟩
    go_wp2_with fail
    go_ret
    have hT := HT0.out.trans (hb1.mono HT0.out.size)
    have hT2 := hT.trans (hb2.mono hT.size)
    exact ⟨rfl, hT2.trans (hb3.mono hT2.size)⟩
  | true =>
  have HV := Lib.hid (validB_iff.1 hv)
  have hp1 : 1 ≤ pl := by have := HV.out.pos; rw [Hpl.out]; exact this
  have hp24 : pl ≤ 24 := by have := HV.out.le; rw [Hpl.out]; exact this
  obtain ⟨s, hs, hsl⟩ := mod_nat a4 hp1
  have Hs := Lib.hid hs
  clear hs
  go_enter Try.func9, Try.ntmps9
  go_wp2_with fail
  refine (light_any _ _ _ _ _ _ G _ HB0.out.g).mono ?_
  rintro e w1 ⟨rfl, hb1⟩
  rw [hl]
  have hB1 := HB0.out.below hb1
  have hT := HT0.out.trans (hb1.mono HT0.out.size)
  have z0 := hB1.c0
  have z1 := hB1.c1
  clear hb1
  go_wp2_with fail
  refine (refValid_any _ _ _ _ _ _ G _ hB1.g).mono ?_
  rintro e w2 ⟨rfl, hb2⟩
  rw [hv]
  replace hB1 := hB1.below hb2
  replace hT := hT.trans (hb2.mono hT.size)
  have z0 := hB1.c0
  have z1 := hB1.c1
  clear hb2
  go_wp2_with fail
  refine (connP_any _ _ _ _ _ _ G a1 a2 a3 _ hB1.g).mono ?_
  rintro e w3 ⟨hF, hb3⟩
  obtain ⟨p1, l1, k1, q1, r1, j1, rfl, hGH⟩ := hF.says.graph
  unfold famRet
  replace hB1 := hB1.below hb3
  replace hT := hT.trans (hb3.mono hT.size)
  clear hb3 hF
  obtain ⟨u3, hu3⟩ : ∃ u3, u3 = w3.alloc (.cells #[.slice p1 l1 k1, .slice q1 r1 j1] 26) := ⟨_, rfl⟩
  have hB2 := BoxG.make (c1 := k1) (c2 := j1) (t := 26) hGH
  have hbA := below_alloc w3 (.cells #[.slice p1 l1 k1, .slice q1 r1 j1] 26)
  replace hB1 := hB1.below hbA
  replace hT := hT.trans (hbA.mono hT.size)
  have z0 := hB1.c0
  have z1 := hB1.c1
  have x0 := hB2.c0
  have x1 := hB2.c1
  clear hbA hGH
  cases hco : connO G a1 a2 a3 with
  | inl k =>
    have hk : (k == 0) = false ∧ (k != 0) = true := by
      unfold connO at hco
      rw [if_pos hv] at hco
      split at hco
      · cases hco
      · cases hco; decide
    obtain ⟨hk1, hk2⟩ := hk
    rw [hco] at hB2
    simp only [erO]
    go_wp2_with fail
    rw [← hu3]
    rw [← hu3] at hB1 hT
    refine (connect_any _ _ _ _ _ _ G a1 a2 a3 _ hB1.g).mono ?_
    rintro e w4 ⟨hF4, hb4⟩
    obtain ⟨p2, l2, k2, q2, r2, j2, rfl, hG4⟩ := hF4.graph
    unfold famRet
    simp only [hco, erO]
    go_wp2_with fail
    refine (awake_any _).mono ?_
    rintro e w5 ⟨rfl, hb5⟩
    go_wp2_with fail
    go_ret
    have hT4 := hT.trans (hb4.mono hT.size)
    have hT5 := hT4.alloc hT4.size (.cells #[.slice p2 l2 k2, .slice q2 r2 j2] 26)
    exact ⟨rfl, hT5.trans (hb5.mono hT5.size)⟩
  | inr H =>
    obtain ⟨hnb, hpo, hwt, hH⟩ := conn_parts hco hv
    obtain ⟨A, B, rfl, rfl, hA, hB, hne⟩ := nodesB_of hnb
    rw [Int.toNat_natCast, Int.toNat_natCast] at hH
    rw [Int.toNat_natCast] at hpo
    have hHV := conn_valid HV.out hA hB hne hpo hwt
    have hcut := conn_cut HV.out hA hB hne hpo hwt
    have hdi : ∀ v, 0 ≤ distF G s v → 0 ≤ distF (connG G A B a3) s v ∧ distF (connG G A B a3) s v ≤ distF G s v := fun v h => conn_dist HV.out hne (by rw [← Hpl.out]; exact hsl) h
    have hHl : (connG G A B a3).ps.length = pl := conn_len.trans Hpl.out.symm
    rw [← hH] at hHV hcut hdi hHl
    rw [hco] at hB2
    replace hB2 : BoxG _ _ _ _ _ _ _ _ H := hB2
    have hr1 : pl = r1 := by have := hB2.g.pl; omega
    subst hr1
    simp only [erO]
    have HHV := Lib.hid hHV
    have Hcut := Lib.hid hcut
    have Hdi := Lib.hid hdi
    clear hHV hcut hdi hHl hnb hpo hwt hH hco hA hB hne
    go_wp2_with fail
    rw [← hu3]
    rw [← hu3] at hB1 hB2 hT x0 x1 z0 z1
    refine (cutP_any _ _ _ _ _ _ H A B _ hB2.g).mono ?_
    rintro e w4 ⟨hF4, hb4⟩
    rw [Hcut.out] at hF4
    obtain ⟨p2, l2, k2, q2, r2, j2, rfl, hG4⟩ := hF4.says.graph
    unfold famRet
    replace hG4 : GraphAt w4 p2 l2 q2 r2 G := hG4
    have hr2 : pl = r2 := by have := hG4.pl; have := Hpl.out; omega
    subst hr2
    simp only [erO]
    replace hB1 := hB1.below hb4
    replace hB2 := hB2.below hb4
    replace hT := hT.trans (hb4.mono hT.size)
    clear hb4 hF4
    obtain ⟨u4, hu4⟩ : ∃ u4, u4 = w4.alloc (.cells #[.slice p2 l2 k2, .slice q2 pl j2] 26) := ⟨_, rfl⟩
    have hB3 := BoxG.make (c1 := k2) (c2 := j2) (t := 26) hG4
    have hbK := below_alloc w4 (.cells #[.slice p2 l2 k2, .slice q2 pl j2] 26)
    replace hB1 := hB1.below hbK
    replace hB2 := hB2.below hbK
    replace hT := hT.trans (hbK.mono hT.size)
    have z0 := hB1.c0
    have z1 := hB1.c1
    have x0 := hB2.c0
    have x1 := hB2.c1
    have y0 := hB3.c0
    have y1 := hB3.c1
    clear hbK hG4
    go_wp2_with fail
    rw [← hu4] at hB1 hB2 hB3 hT z0 z1 x0 x1 y0 y1 ⊢
    clear hu4
    refine (mod_any a4 pl _ H4.out hp1 (by omega)).mono ?_
    rintro e w5 ⟨rfl, rfl⟩
    rw [Hs.out]
    go_wp2_with fail
    have hdr : Below u4.heap.size u4 u4.drew := ⟨rfl, rfl, rfl, Nat.le_refl _, fun b _ => rfl⟩
    replace hB1 := hB1.below hdr
    replace hB2 := hB2.below hdr
    replace hB3 := hB3.below hdr
    replace hT := hT.trans (hdr.mono hT.size)
    clear hdr
    replace z0 := hB1.c0
    replace z1 := hB1.c1
    replace x0 := hB2.c0
    replace x1 := hB2.c1
    refine keep_start (fun w' => w'.cell? ⟨w.heap.size, 0, none⟩ = some (.slice ia il ic) ∧ w'.cell? ⟨w.heap.size, 1, none⟩ = some (.slice pa pl pc) ∧ w'.cell? ⟨w3.heap.size, 0, none⟩ = some (.slice p1 l1 k1) ∧ w'.cell? ⟨w3.heap.size, 1, none⟩ = some (.slice q1 pl j1)) [] (by kernel_rfl) ?_
    (refine keep_pure 1 (v := ?_) rfl (by kernel_rfl) (by kernel_rfl) (by kernel_rfl) (by kernel_rfl) (fun _ _ _ h => h) (Or.inl ⟨by rfl, ?_⟩) (.inr (by exact ⟨z0, z1, x0, x1⟩)) ?_; rotate_left 1; focus (intro _; go_simp; (try go_ints); try (with_reducible rfl)); (try simp only [Act.put, List.setIfInBounds_toArray, List.set_cons_zero, List.set_cons_succ]))
    (refine keep_pure 4 (v := ?_) rfl (by kernel_rfl) (by kernel_rfl) (by kernel_rfl) (by kernel_rfl) (fun _ _ _ h => h) (Or.inl ⟨by rfl, ?_⟩) (.inr (by exact ⟨z0, z1, x0, x1⟩)) ?_; rotate_left 1; focus (intro _; go_simp; (try go_ints); try (with_reducible rfl)); (try simp only [Act.put, List.setIfInBounds_toArray, List.set_cons_zero, List.set_cons_succ]))
    (refine keep_load 0 (v := ?_) rfl (by kernel_rfl) (by kernel_rfl) (by kernel_rfl) (by kernel_rfl) (by kernel_rfl) (by kernel_rfl) (fun _ _ _ h => h) (Or.inl ⟨by rfl, ?_⟩) (by exact ⟨z0, z1, x0, x1⟩) ?_; rotate_left 1; focus (intro _ hSw; (first | (obtain ⟨_, _, _, _, _⟩ := hSw) | (obtain ⟨_, _, _, _⟩ := hSw) | (obtain ⟨_, _, _⟩ := hSw) | (obtain ⟨_, _⟩ := hSw) | skip); go_simp; (try go_ints); try (with_reducible rfl)); (try simp only [Act.put, List.setIfInBounds_toArray, List.set_cons_zero, List.set_cons_succ]))
    (refine keep_load 3 (v := ?_) rfl (by kernel_rfl) (by kernel_rfl) (by kernel_rfl) (by kernel_rfl) (by kernel_rfl) (by kernel_rfl) (fun _ _ _ h => h) (Or.inl ⟨by rfl, ?_⟩) (by exact ⟨z0, z1, x0, x1⟩) ?_; rotate_left 1; focus (intro _ hSw; (first | (obtain ⟨_, _, _, _, _⟩ := hSw) | (obtain ⟨_, _, _, _⟩ := hSw) | (obtain ⟨_, _, _⟩ := hSw) | (obtain ⟨_, _⟩ := hSw) | skip); go_simp; (try go_ints); try (with_reducible rfl)); (try simp only [Act.put, List.setIfInBounds_toArray, List.set_cons_zero, List.set_cons_succ]))
    (refine keep_one 2 (by kernel_rfl) rfl ?_)
    intro K hK
    go_simp
    refine (distancesOf_any ia pa il ic pl pc G s _ hB1.g HV.out hsl).mono ?_
    rintro e wa ⟨⟨fx, rfl, hfx, hMx⟩, hba⟩
    have hB1a := hB1.below hba
    have hB2a := hB2.below hba
    have hB3a := hB3.below hba
    have hTa := hT.trans (hba.mono hT.size)
    have HMx := Lib.hid hMx
    clear hMx hba
    refine hK _ _ (fun h => (by exact ⟨hB1a.c0, hB1a.c1, hB2a.c0, hB2a.c1⟩)) ?_
    clear hK K
    (try simp only [Act.put, List.setIfInBounds_toArray, List.set_cons_zero, List.set_cons_succ])
    (refine keep_one 5 (by kernel_rfl) rfl ?_)
    intro K hK
    go_simp
    refine (distancesOf_any p1 q1 l1 k1 pl j1 H s _ hB2a.g HHV.out hsl).mono ?_
    rintro e wb ⟨⟨fy, rfl, hfy, hMy⟩, hbb⟩
    have hB1b := hB1a.below hbb
    have hB2b := hB2a.below hbb
    have hB3b := hB3a.below hbb
    have hTb := hTa.trans (hbb.mono hTa.size)
    have HMx2 : Hid (∀ i, i < pl → wb.cell? ⟨fx, i, none⟩ = some (.int .i64 (distF G s i))) := Lib.hid (fun i hi => (hbb.cell (p := ⟨fx, i, none⟩) HMx.out.1).trans (HMx.out.2 i hi).1)
    have HMy := Lib.hid hMy
    clear hMy hbb
    refine hK _ _ (fun h => (by exact ⟨hB1b.c0, hB1b.c1, hB2b.c0, hB2b.c1⟩)) ?_
    clear hK K
    (try simp only [Act.put, List.setIfInBounds_toArray, List.set_cons_zero, List.set_cons_succ])
    (refine keep_pure 6 (v := ?_) rfl (by kernel_rfl) (by kernel_rfl) (by kernel_rfl) (by kernel_rfl) (fun _ _ _ h => h) (Or.inl ⟨by rfl, ?_⟩) (.inr (by exact ⟨hB1b.c0, hB1b.c1, hB2b.c0, hB2b.c1⟩)) ?_; rotate_left 1; focus (intro _; go_simp; (try go_ints); try (with_reducible rfl)); (try simp only [Act.put, List.setIfInBounds_toArray, List.set_cons_zero, List.set_cons_succ]))
    (refine keep_pure 7 (v := ?_) rfl (by kernel_rfl) (by kernel_rfl) (by kernel_rfl) (by kernel_rfl) (fun _ _ _ h => h) (Or.inl ⟨by rfl, ?_⟩) (.inr (by exact ⟨hB1b.c0, hB1b.c1, hB2b.c0, hB2b.c1⟩)) ?_; rotate_left 1; focus (intro _; go_simp; (try go_ints); try (with_reducible rfl)); (try simp only [Act.put, List.setIfInBounds_toArray, List.set_cons_zero, List.set_cons_succ]))
    (refine keep_done (by kernel_rfl) ?_)
    clear z0 z1 x0 x1 y0 y1 hB1 hB2 hB3 hT hB1a hB2a hB3a hTa HMx
    have z0 := hB1b.c0
    have z1 := hB1b.c1
    have y0 := hB3b.c0
    have y1 := hB3b.c1
    go_wp2_with fail
    refine (same_any _ _ _ _ _ _ _ _ _ _ _ _ G G _ hB1b.g hB3b.g).mono ?_
    rintro e wc ⟨rfl, hbc⟩
    rw [sameB_mk rfl rfl]
    have hTc := hTb.trans (hbc.mono hTb.size)
    have hB1c := hB1b.below hbc
    have hMx : ∀ i, i < pl → wc.cell? ⟨fx, i, none⟩ = some (.int .i64 (distF G s i)) := fun i hi => (hbc.cell (p := ⟨fx, i, none⟩) (cell_lt (HMx2.out i hi))).trans (HMx2.out i hi)
    have hMy : ∀ i, i < pl → wc.cell? ⟨fy, i, none⟩ = some (.int .i64 (distF H s i)) := fun i hi => (hbc.cell (p := ⟨fy, i, none⟩) HMy.out.1).trans (HMy.out.2 i hi).1
    have HX := Lib.hid hMx
    have HY := Lib.hid hMy
    have HTc := Lib.hid hTc
    have z0 := hB1c.c0
    have z1 := hB1c.c1
    clear hMx hMy hTc hbc hB1b hB2b hB3b hTb HMx2 HMy y0 y1 hB1c
    go_wp2_with fail
    go_loopw [19] (fun t wr => ∃ v : Nat, t = .int .i64 v ∧ v ≤ pl ∧ Below wc.heap.size wc wr) (fun t _ => pl - (intOf t).toNat)
    case atStart => exact ⟨0, rfl, Nat.zero_le _, by first | exact Below.refl _ _ | exact belDraws (Below.refl _ _) _⟩
    case round =>
      obtain ⟨v, rfl, hvn, hbr⟩ := hrel
      have HBr := Lib.hid hbr
      clear hbr
      by_cases hlt : v < pl
      · have c1 := (HBr.out.cell (p := ⟨fx, v, none⟩) (cell_lt (HX.out v hlt))).trans (HX.out v hlt)
        have c2 := (HBr.out.cell (p := ⟨fy, v, none⟩) (cell_lt (HY.out v hlt))).trans (HY.out v hlt)
        have hd := Hdi.out v
        generalize distF G s v = x at c1 hd
        generalize distF H s v = y at c2 hd
        by_cases hx : 0 ≤ x
        · obtain ⟨hy1, hy2⟩ := hd hx
          clear hd
          go_wp2
          go_quiet (fail)
          go_wp2
          go_roundw
          case rel => exact ⟨v + 1, by go_num, by omega, belDraws HBr.out _⟩
          case measure => simp [intOf]; omega
        · clear hd
          have hdx : decide (0 ≤ x) = false := by simpa using hx
          go_wp2
          go_quiet (fail)
          go_wp2
          go_roundw
          case rel => exact ⟨v + 1, by go_num, by omega, belDraws HBr.out _⟩
          case measure => simp [intOf]; omega
      · obtain rfl : v = pl := by omega
        go_wp2_with (go_at_call 10; refine (awake_any _).mono ?_; rintro e w5 ⟨rfl, hb7⟩)
        go_ret
        have hb8 := HTc.out.trans (HBr.out.mono HTc.out.size)
        exact ⟨rfl, hb8.trans (hb7.mono hb8.size)⟩

set_option maxRecDepth 100000 in
theorem lifted (os : Os) (started : os.Started) (H : Type) (enc : TypeId × Value → H) :
    ReturnsInHanded {} Try.checked os 9 .any (Rows.familyCutsBackSpec.pre6 enc Try.prog Try.f9 Rows.familyCutsBackRow.domain false) (Rows.familyCutsBackSpec.post enc Try.prog Try.f9 false true false false) := by
  refine returnsInHanded_of_change (C := Try.checked) own started (by kernel_rfl) Try.func9
    (ChangeSpec.witness6 (enc := enc) (C := Try.checked) false ⟨#[], #[.agg #[.slice none 0 0, .slice none 0 0], .int .i64 0, .int .i64 0, .int .i64 0, .int .i64 0], []⟩ 8 (by kernel_rfl) (by kernel_rfl) (by kernel_rfl) (by kernel_rfl)) ?_
  intro W base args ds gs before hval0 hW hcnd _
  have hval : ∀ (j : Nat) t v, Try.f9.params[j]? = some t → args[j]? = some v → Value.okWide Try.prog W .any base t v := hval0
  have hW' := hW
  obtain ⟨p, q, hA0, hV, rfl, hfz, hnd⟩ := hW
  have hA : DataW.TrodAll enc Try.prog W 0 (fun _ => true) true Try.f9.params.toList args.toList ds p := hA0
  rw [Try.params9] at hA hval
  obtain ⟨v0, vs0, d0, ds0, p0, q0, hargs, rfl, rfl, h0, r0⟩ := trodAll_cons hA
  obtain ⟨v1, vs1, d1, ds1, p1, q1, rfl, rfl, rfl, h1, r1⟩ := trodAll_cons r0
  obtain ⟨v2, vs2, d2, ds2, p2, q2, rfl, rfl, rfl, h2, r2⟩ := trodAll_cons r1
  obtain ⟨v3, vs3, d3, ds3, p3, q3, rfl, rfl, rfl, h3, r3⟩ := trodAll_cons r2
  obtain ⟨v4, vs4, d4, ds4, p4, q4, rfl, rfl, rfl, h4, r4⟩ := trodAll_cons r3
  obtain ⟨rfl, rfl, rfl⟩ := trodAll_nil r4
  obtain rfl : args = #[v0, v1, v2, v3, v4] := by cases args; simp_all
  obtain ⟨rfl, rfl⟩ := trodVars_none hV
  have k0 := h0
  have lt0 : ∀ x ∈ p0, x.block < W.heap.size := by obtain ⟨m, hm⟩ := k0; exact DataW.trod_lt m _ _ _ hm
  obtain ⟨ia0, il0, ic0, pa0, pl0, pc0, G0, rfl, hG0⟩ := open_graph (hval 0 26 v0 rfl rfl) h0
  have k1 := h1
  have lt1 : ∀ x ∈ p1, x.block < W.heap.size := by obtain ⟨m, hm⟩ := k1; exact DataW.trod_lt m _ _ _ hm
  obtain ⟨a1, rfl, rfl, rfl, w1⟩ := open_int Try.underlying3 (hval 1 3 v1 rfl rfl) h1
  have k2 := h2
  have lt2 : ∀ x ∈ p2, x.block < W.heap.size := by obtain ⟨m, hm⟩ := k2; exact DataW.trod_lt m _ _ _ hm
  obtain ⟨a2, rfl, rfl, rfl, w2⟩ := open_int Try.underlying3 (hval 2 3 v2 rfl rfl) h2
  have k3 := h3
  have lt3 : ∀ x ∈ p3, x.block < W.heap.size := by obtain ⟨m, hm⟩ := k3; exact DataW.trod_lt m _ _ _ hm
  obtain ⟨a3, rfl, rfl, rfl, w3⟩ := open_int Try.underlying3 (hval 3 3 v3 rfl rfl) h3
  have k4 := h4
  have lt4 : ∀ x ∈ p4, x.block < W.heap.size := by obtain ⟨m, hm⟩ := k4; exact DataW.trod_lt m _ _ _ hm
  obtain ⟨a4, rfl, rfl, rfl, w4⟩ := open_int Try.underlying3 (hval 4 3 v4 rfl rfl) h4
  clear hA0 hval0
  refine (walk W ia0 il0 ic0 pa0 pl0 pc0 G0 hG0 a1 w1 a2 w2 a3 w3 a4 w4).mono fun e W' ⟨he, bel⟩ => ?_
  subst he
  exact ⟨_, rfl, _, _, _, [], _, [], hW', trodAll_mk1 (shut_bool Try.underlying4 _), (trodAll_cons_mk (Below.trod laidOut (by kernel_rfl) (of_decide_eq_true (by kernel_rfl)) k0 bel lt0) (trodAll_cons_mk (Below.trod laidOut (by kernel_rfl) (of_decide_eq_true (by kernel_rfl)) k1 bel lt1) (trodAll_cons_mk (Below.trod laidOut (by kernel_rfl) (of_decide_eq_true (by kernel_rfl)) k2 bel lt2) (trodAll_cons_mk (Below.trod laidOut (by kernel_rfl) (of_decide_eq_true (by kernel_rfl)) k3 bel lt3) (trodAll_cons_mk (Below.trod laidOut (by kernel_rfl) (of_decide_eq_true (by kernel_rfl)) k4 bel lt4) trodAll_mk0))))), rfl, bel.frame _, fun h => by cases h⟩

theorem over : Rows.familyCutsBackRow.holds Try.pinned (OpenSpec.ofChange Rows.familyCutsBackSpec) :=
  OpenClaim.holds_of_wide 9 Try.f9 rfl rfl rfl rfl rfl rfl rfl ⟨rfl, rfl, rfl, rfl, rfl⟩ rfl rfl rfl rfl rfl (by kernel_rfl) Try.func9 (by kernel_rfl)
    (of_decide_eq_true (by kernel_rfl)) (by unfold Func.isWrapper; first | (rw [if_pos (by decide +kernel)]; kernel_rfl) | (rw [if_neg (by decide +kernel)]; exact ⟨rfl, rfl⟩))
    (fun os started H enc _ => lifted os started H enc)

theorem proved : Rows.FamilyCutsBackSaid := over
end Go.Proofs.Ytkffpipcjdhbaaa.lawFamilyCutsBack
