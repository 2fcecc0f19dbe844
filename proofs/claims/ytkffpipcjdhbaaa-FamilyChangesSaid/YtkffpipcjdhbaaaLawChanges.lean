/- Cut and Connect return the specified graphs and errors. No conditions: every input. -/
import Derived.Test.YtkffpipcjdhbaaaLaw3
import Derived.Test.YtkffpipcjdhbaaaRefF14
import Derived.Test.YtkffpipcjdhbaaaFamConn
import Derived.OpenShut
import Derived.ChangeOld
import Derived.Deep.RegionHeld3
namespace Go.Proofs.Ytkffpipcjdhbaaa
open Go.ChangeShapes Go.WideShapes Go.ChangeAt Go.RowKit Go.Deep Go.Joins
section
variable {H : Type} {enc : TypeId × Value → H} {P : Program} {w : World} {base : Nat} {spare : Nat → Bool} {held : Bool}
theorem links_cap {t e : TypeId} {fuel : Nat} {a : Option Addr} {l c : Nat} {x : DataW H × List MemPlace} (ht : P.underlying t = some (.slice e)) (h : DataW.trod enc P w base spare held fuel t [.slice a l c] = some x) : l ≤ c := by
  rcases open_slice ht h with ⟨hcs, _⟩ | ⟨a', len, cap, m, n, D, Pl, hcs, _, hl, _⟩
  · simp at hcs
    omega
  · simp at hcs
    omega
theorem caps_of {s t e : TypeId} {fuel : Nat} {pa : Option Addr} {pl pc : Nat} {x : DataW H × List MemPlace} {ps : List (List (Int × Int))} (hs : P.underlying s = some (.slice t)) (hs1 : P.cellsOf t = 1) (ht : P.underlying t = some (.slice e))
    (h : DataW.trod enc P w base spare held fuel s [.slice pa pl pc] = some x) (hp : PortsAt w pa ps) (hl : pl = ps.length) : CapsAt w pa ps := by
  intro h0
  obtain ⟨b, o, e, hlt, hc⟩ := hp.row h0
  refine ⟨b, o, e, hlt, fun v hv => ?_⟩
  obtain ⟨la, lc, h1, h2⟩ := hc v hv
  refine ⟨la, lc, h1, h2, ?_⟩
  rcases open_slice1 hs hs1 h with ⟨hcs, _⟩ | ⟨a, len, cap, m, n, V, D, Pl, hcs, _, hl', hm, hmm, _, hi⟩
  · simp at hcs
    omega
  · obtain ⟨e1, e2, e3⟩ : pa = some a ∧ pl = len ∧ pc = cap := by simpa using hcs
    have hlm : len ≤ m := by rw [hmm]; split <;> omega
    obtain ⟨hcell, htr⟩ := hi v (by omega)
    rw [e] at e1
    injection e1 with e1
    subst e1
    rw [add_none, h1] at hcell
    injection hcell with hcell
    rw [← hcell] at htr
    exact links_cap ht htr
end
theorem open_graphC {H : Type} {enc : TypeId × Value → H} {w : World} {base : Nat} {spare : Nat → Bool} {held : Bool} {r : Go.Reach} {b0 : Nat} {v : Value} {d : DataW H} {p : List MemPlace}
    (hv : Value.okWide Try.prog w r b0 26 v) (h : DataW.Trod enc Try.prog w base spare held 26 v d p) :
    ∃ ia il ic pa pl pc G, v = .agg #[.slice ia il ic, .slice pa pl pc] ∧ GraphAt w ia il pa pl G ∧ CapsAt w pa G.ps := by
  obtain ⟨v0, v1, y0, y1, n, rfl, _, _, h0, h1⟩ := open_agg2 Try.underlying26 (by kernel_rfl) (by kernel_rfl) hv h
  obtain ⟨ia, il, ic, zs, rfl, hl, hz⟩ := ints_of Try.underlying22 Try.underlying3 (by kernel_rfl) h0
  obtain ⟨pa, pl, pc, ps, rfl, hpl, hp⟩ := ports_of Try.underlying24 (by kernel_rfl) Try.underlying48 Try.underlying50 (by kernel_rfl) (by kernel_rfl) rfl rfl Try.underlying3 h1
  exact ⟨ia, il, ic, pa, pl, pc, ⟨zs, ps⟩, rfl, ⟨hl, hpl, hz, hp⟩, caps_of Try.underlying24 (by kernel_rfl) Try.underlying48 h1 hp hpl⟩
end Go.Proofs.Ytkffpipcjdhbaaa
namespace Go.Proofs.Ytkffpipcjdhbaaa.lawFamilyChanges
open Go.ChangeShapes Go.WideShapes Go.ChangeAt Go.RowKit Go.Deep Go.Joins
set_option linter.unusedVariables false

/-- the struct at A holds a graph -/
structure BoxG (w : World) (A : Nat) (a1 : Option Addr) (l1 c1 : Nat) (a2 : Option Addr) (l2 c2 : Nat) (G : Gr) : Prop where
  c0 : w.cell? ⟨A, 0, none⟩ = some (.slice a1 l1 c1)
  c1 : w.cell? ⟨A, 1, none⟩ = some (.slice a2 l2 c2)
  g : GraphAt w a1 l1 a2 l2 G
theorem BoxG.below {w w' : World} {A : Nat} {a1 : Option Addr} {l1 c1 : Nat} {a2 : Option Addr} {l2 c2 : Nat} {G : Gr} (h : BoxG w A a1 l1 c1 a2 l2 c2 G) (hb : Below w.heap.size w w') : BoxG w' A a1 l1 c1 a2 l2 c2 G :=
  ⟨(hb.cell (p := ⟨A, 0, none⟩) (cell_lt h.c0)).trans h.c0, (hb.cell (p := ⟨A, 1, none⟩) (cell_lt h.c1)).trans h.c1, h.g.below hb⟩
theorem BoxG.make {w : World} {a1 : Option Addr} {l1 c1 : Nat} {a2 : Option Addr} {l2 c2 : Nat} {G : Gr} {t : TypeId} (h : GraphAt w a1 l1 a2 l2 G) : BoxG (w.alloc (.cells #[.slice a1 l1 c1, .slice a2 l2 c2] t)) w.heap.size a1 l1 c1 a2 l2 c2 G :=
  ⟨by simp [cell_push0], by simp [cell_push0], h.alloc _⟩
theorem below_alloc (w : World) (o : Obj) : Below w.heap.size w (w.alloc o) := (Below.refl _ _).alloc (Nat.le_refl _) o

set_option maxRecDepth 100000 in
set_option maxHeartbeats 1000000 in
theorem walk (w : World) (ia : Option Addr) (il ic : Nat) (pa : Option Addr) (pl pc : Nat) (G : Gr) (hG : GraphAt w ia il pa pl G) (hC : CapsAt w pa G.ps) (a1 : Int) (wf1 : (Lit.int .i64 a1).wf = true) (a2 : Int) (wf2 : (Lit.int .i64 a2).wf = true) (a3 : Int) (wf3 : (Lit.int .i64 a3).wf = true) :
    Calls Try.prog 5 #[.agg #[.slice ia il ic, .slice pa pl pc], .int .i64 a1, .int .i64 a2, .int .i64 a3] w fun e w' => e = .returned (.bool true) ∧ Below w.heap.size w w' := by
  have hB0 := BoxG.make (c1 := ic) (c2 := pc) (t := 26) hG
  have HB0 := Lib.hid hB0
  have hT0 := below_alloc w (.cells #[.slice ia il ic, .slice pa pl pc] 26)
  have HT0 := Lib.hid hT0
  have HC : Hid (∀ u : World, Below w.heap.size w u → CapsAt u pa G.ps) := Lib.hid (fun u hb => hC.below hb)
  clear wf1 wf2 wf3 hG hB0 hT0 hC
  cases hl : lightB G with
  | false =>
    go_enter Try.func5, Try.ntmps5
    go_wp2_with fail
    refine (light_any _ _ _ _ _ _ G _ HB0.out.g).mono ?_
    rintro e w1 ⟨rfl, hb1⟩
    rw [hl]
    go_wp2_with fail
    refine (awake_any _).mono ?_
    rintro e w2 ⟨rfl, hb2⟩
    go_wp2_with fail
    go_ret
    have hT := HT0.out.trans (hb1.mono HT0.out.size)
    exact ⟨rfl, hT.trans (hb2.mono hT.size)⟩
  | true =>
  obtain ⟨o1, ho1⟩ : ∃ o, o = cutO G a1 a2 := ⟨_, rfl⟩
  obtain ⟨o2, ho2⟩ : ∃ o, o = connO G a1 a2 a3 := ⟨_, rfl⟩
  obtain ⟨k1, hk1⟩ : ∃ k, k = erO o1 := ⟨_, rfl⟩
  obtain ⟨k2, hk2⟩ : ∃ k, k = erO o2 := ⟨_, rfl⟩
  have Ho1 := Lib.hid ho1
  have Ho2 := Lib.hid ho2
  have Hk1 := Lib.hid hk1
  have Hk2 := Lib.hid hk2
  clear ho1 ho2 hk1 hk2
  go_enter Try.func5, Try.ntmps5
  go_wp2_with fail
  refine (light_any _ _ _ _ _ _ G _ HB0.out.g).mono ?_
  rintro e w1 ⟨rfl, hb1⟩
  rw [hl]
  have hB1 := HB0.out.below hb1
  have hT := HT0.out.trans (hb1.mono HT0.out.size)
  have z0 := hB1.c0
  have z1 := hB1.c1
  clear hb1
  go_wp2_with fail
  refine (cutP_any _ _ _ _ _ _ G a1 a2 _ hB1.g).mono ?_
  rintro e v1 ⟨hF, hb⟩
  obtain ⟨p1, l1, c1, q1, r1, d1, rfl, hGH⟩ := hF.says.graph
  rw [← Ho1.out, ← Hk1.out]
  rw [← Ho1.out] at hGH
  unfold famRet
  replace hB1 := hB1.below hb
  replace hT := hT.trans (hb.mono hT.size)
  clear hb hF
  obtain ⟨u1, hu1⟩ : ∃ u, u = v1.alloc (.cells #[.slice p1 l1 c1, .slice q1 r1 d1] 26) := ⟨_, rfl⟩
  have hX1 := BoxG.make (c1 := c1) (c2 := d1) (t := 26) hGH
  have hbA := below_alloc v1 (.cells #[.slice p1 l1 c1, .slice q1 r1 d1] 26)
  replace hB1 := hB1.below hbA
  replace hT := hT.trans (hbA.mono hT.size)
  have z0 := hB1.c0
  have z1 := hB1.c1
  clear hbA hGH
  go_wp2_with fail
  rw [← hu1] at hB1 hT hX1  ⊢
  clear hu1 z0 z1
  refine (cut_any _ _ _ _ _ _ G a1 a2 _ hB1.g (HC.out _ hT)).mono ?_
  rintro e v2 ⟨hF, hb⟩
  obtain ⟨p2, l2, c2, q2, r2, d2, rfl, hGH⟩ := hF.graph
  rw [← Ho1.out, ← Hk1.out]
  rw [← Ho1.out] at hGH
  unfold famRet
  replace hB1 := hB1.below hb
  replace hT := hT.trans (hb.mono hT.size)
  replace hX1 := hX1.below hb
  clear hb hF
  obtain ⟨u2, hu2⟩ : ∃ u, u = v2.alloc (.cells #[.slice p2 l2 c2, .slice q2 r2 d2] 26) := ⟨_, rfl⟩
  have hX2 := BoxG.make (c1 := c2) (c2 := d2) (t := 26) hGH
  have hbA := below_alloc v2 (.cells #[.slice p2 l2 c2, .slice q2 r2 d2] 26)
  replace hB1 := hB1.below hbA
  replace hT := hT.trans (hbA.mono hT.size)
  replace hX1 := hX1.below hbA
  have z0 := hB1.c0
  have z1 := hB1.c1
  clear hbA hGH
  go_wp2_with fail
  rw [← hu2] at hB1 hT hX2 hX1 ⊢
  clear hu2 z0 z1
  refine (connP_any _ _ _ _ _ _ G a1 a2 a3 _ hB1.g).mono ?_
  rintro e v3 ⟨hF, hb⟩
  obtain ⟨p3, l3, c3, q3, r3, d3, rfl, hGH⟩ := hF.says.graph
  rw [← Ho2.out, ← Hk2.out]
  rw [← Ho2.out] at hGH
  unfold famRet
  replace hB1 := hB1.below hb
  replace hT := hT.trans (hb.mono hT.size)
  replace hX1 := hX1.below hb
  replace hX2 := hX2.below hb
  clear hb hF
  obtain ⟨u3, hu3⟩ : ∃ u, u = v3.alloc (.cells #[.slice p3 l3 c3, .slice q3 r3 d3] 26) := ⟨_, rfl⟩
  have hX3 := BoxG.make (c1 := c3) (c2 := d3) (t := 26) hGH
  have hbA := below_alloc v3 (.cells #[.slice p3 l3 c3, .slice q3 r3 d3] 26)
  replace hB1 := hB1.below hbA
  replace hT := hT.trans (hbA.mono hT.size)
  replace hX1 := hX1.below hbA
  replace hX2 := hX2.below hbA
  have z0 := hB1.c0
  have z1 := hB1.c1
  clear hbA hGH
  go_wp2_with fail
  rw [← hu3] at hB1 hT hX3 hX1 hX2 ⊢
  clear hu3 z0 z1
  refine (connect_any _ _ _ _ _ _ G a1 a2 a3 _ hB1.g).mono ?_
  rintro e v4 ⟨hF, hb⟩
  obtain ⟨p4, l4, c4, q4, r4, d4, rfl, hGH⟩ := hF.graph
  rw [← Ho2.out, ← Hk2.out]
  rw [← Ho2.out] at hGH
  unfold famRet
  replace hB1 := hB1.below hb
  replace hT := hT.trans (hb.mono hT.size)
  replace hX1 := hX1.below hb
  replace hX2 := hX2.below hb
  replace hX3 := hX3.below hb
  clear hb hF
  obtain ⟨u4, hu4⟩ : ∃ u, u = v4.alloc (.cells #[.slice p4 l4 c4, .slice q4 r4 d4] 26) := ⟨_, rfl⟩
  have hX4 := BoxG.make (c1 := c4) (c2 := d4) (t := 26) hGH
  have hbA := below_alloc v4 (.cells #[.slice p4 l4 c4, .slice q4 r4 d4] 26)
  replace hB1 := hB1.below hbA
  replace hT := hT.trans (hbA.mono hT.size)
  replace hX1 := hX1.below hbA
  replace hX2 := hX2.below hbA
  replace hX3 := hX3.below hbA
  have z0 := hB1.c0
  have z1 := hB1.c1
  clear hbA hGH
  go_wp2_with fail
  rw [← hu4] at hB1 hT hX4 hX1 hX2 hX3 ⊢
  clear hu4 z0 z1
  refine (awake_any _).mono ?_
  rintro e w5 ⟨rfl, hb⟩
  replace hB1 := hB1.below hb
  replace hT := hT.trans (hb.mono hT.size)
  replace hX1 := hX1.below hb
  replace hX2 := hX2.below hb
  replace hX3 := hX3.below hb
  replace hX4 := hX4.below hb
  clear hb
  have y1 := hX1.c0
  have y2 := hX2.c0
  have y3 := hX3.c0
  have y4 := hX4.c0
  have x1 := hX1.c1
  have x2 := hX2.c1
  have x3 := hX3.c1
  have x4 := hX4.c1
  go_wp2_with fail
  clear y1 y2 y3 y4 x1 x2 x3 x4
  refine (same_any _ _ _ _ _ _ _ _ _ _ _ _ _ _ _ hX1.g hX2.g).mono ?_
  rintro e w6 ⟨rfl, hb⟩
  rw [sameB_mk rfl rfl]
  replace hB1 := hB1.below hb
  replace hT := hT.trans (hb.mono hT.size)
  replace hX1 := hX1.below hb
  replace hX2 := hX2.below hb
  replace hX3 := hX3.below hb
  replace hX4 := hX4.below hb
  clear hb
  have y1 := hX1.c0
  have y2 := hX2.c0
  have y3 := hX3.c0
  have y4 := hX4.c0
  have x1 := hX1.c1
  have x2 := hX2.c1
  have x3 := hX3.c1
  have x4 := hX4.c1
  go_wp2_with fail
  clear y1 y2 y3 y4 x1 x2 x3 x4
  refine (same_any _ _ _ _ _ _ _ _ _ _ _ _ _ _ _ hX3.g hX4.g).mono ?_
  rintro e w7 ⟨rfl, hb⟩
  rw [sameB_mk rfl rfl]
  replace hB1 := hB1.below hb
  replace hT := hT.trans (hb.mono hT.size)
  replace hX1 := hX1.below hb
  replace hX2 := hX2.below hb
  replace hX3 := hX3.below hb
  replace hX4 := hX4.below hb
  clear hb
  have y1 := hX1.c0
  have y2 := hX2.c0
  have y3 := hX3.c0
  have y4 := hX4.c0
  have x1 := hX1.c1
  have x2 := hX2.c1
  have x3 := hX3.c1
  have x4 := hX4.c1
  go_wp2_with fail
  go_ret
  exact ⟨rfl, hT⟩

set_option maxRecDepth 100000 in
theorem lifted (os : Os) (started : os.Started) (H : Type) (enc : TypeId × Value → H) :
    ReturnsInHanded {} Try.checked os 5 .any (Rows.familyChangesSpec.pre6 enc Try.prog Try.f5 Rows.familyChangesRow.domain false) (Rows.familyChangesSpec.post enc Try.prog Try.f5 false true false false) := by
  refine returnsInHanded_of_change (C := Try.checked) own started (by kernel_rfl) Try.func5
    (ChangeSpec.witness6 (enc := enc) (C := Try.checked) false ⟨#[], #[.agg #[.slice none 0 0, .slice none 0 0], .int .i64 0, .int .i64 0, .int .i64 0], []⟩ 8 (by kernel_rfl) (by kernel_rfl) (by kernel_rfl) (by kernel_rfl)) ?_
  intro W base args ds gs before hval0 hW hcnd _
  have hval : ∀ (j : Nat) t v, Try.f5.params[j]? = some t → args[j]? = some v → Value.okWide Try.prog W .any base t v := hval0
  have hW' := hW
  obtain ⟨p, q, hA0, hV, rfl, hfz, hnd⟩ := hW
  have hA : DataW.TrodAll enc Try.prog W 0 (fun _ => true) true Try.f5.params.toList args.toList ds p := hA0
  rw [Try.params5] at hA hval
  obtain ⟨v0, vs0, d0, ds0, p0, q0, hargs, rfl, rfl, h0, r0⟩ := trodAll_cons hA
  obtain ⟨v1, vs1, d1, ds1, p1, q1, rfl, rfl, rfl, h1, r1⟩ := trodAll_cons r0
  obtain ⟨v2, vs2, d2, ds2, p2, q2, rfl, rfl, rfl, h2, r2⟩ := trodAll_cons r1
  obtain ⟨v3, vs3, d3, ds3, p3, q3, rfl, rfl, rfl, h3, r3⟩ := trodAll_cons r2
  obtain ⟨rfl, rfl, rfl⟩ := trodAll_nil r3
  obtain rfl : args = #[v0, v1, v2, v3] := by cases args; simp_all
  obtain ⟨rfl, rfl⟩ := trodVars_none hV
  have k0 := h0
  have lt0 : ∀ x ∈ p0, x.block < W.heap.size := by obtain ⟨m, hm⟩ := k0; exact DataW.trod_lt m _ _ _ hm
  obtain ⟨ia0, il0, ic0, pa0, pl0, pc0, G0, rfl, hG0, hC0⟩ := open_graphC (hval 0 26 v0 rfl rfl) h0
  have k1 := h1
  have lt1 : ∀ x ∈ p1, x.block < W.heap.size := by obtain ⟨m, hm⟩ := k1; exact DataW.trod_lt m _ _ _ hm
  obtain ⟨a1, rfl, rfl, rfl, w1⟩ := open_int Try.underlying3 (hval 1 3 v1 rfl rfl) h1
  have k2 := h2
  have lt2 : ∀ x ∈ p2, x.block < W.heap.size := by obtain ⟨m, hm⟩ := k2; exact DataW.trod_lt m _ _ _ hm
  obtain ⟨a2, rfl, rfl, rfl, w2⟩ := open_int Try.underlying3 (hval 2 3 v2 rfl rfl) h2
  have k3 := h3
  have lt3 : ∀ x ∈ p3, x.block < W.heap.size := by obtain ⟨m, hm⟩ := k3; exact DataW.trod_lt m _ _ _ hm
  obtain ⟨a3, rfl, rfl, rfl, w3⟩ := open_int Try.underlying3 (hval 3 3 v3 rfl rfl) h3
  clear hA0 hval0
  refine (walk W ia0 il0 ic0 pa0 pl0 pc0 G0 hG0 hC0 a1 w1 a2 w2 a3 w3).mono fun e W' ⟨he, bel⟩ => ?_
  subst he
  exact ⟨_, rfl, _, _, _, [], _, [], hW', trodAll_mk1 (shut_bool Try.underlying4 _), (trodAll_cons_mk (Below.trod laidOut (by kernel_rfl) (of_decide_eq_true (by kernel_rfl)) k0 bel lt0) (trodAll_cons_mk (Below.trod laidOut (by kernel_rfl) (of_decide_eq_true (by kernel_rfl)) k1 bel lt1) (trodAll_cons_mk (Below.trod laidOut (by kernel_rfl) (of_decide_eq_true (by kernel_rfl)) k2 bel lt2) (trodAll_cons_mk (Below.trod laidOut (by kernel_rfl) (of_decide_eq_true (by kernel_rfl)) k3 bel lt3) trodAll_mk0)))), rfl, bel.frame _, fun h => by cases h⟩

theorem over : Rows.familyChangesRow.holds Try.pinned (OpenSpec.ofChange Rows.familyChangesSpec) :=
  OpenClaim.holds_of_wide 5 Try.f5 rfl rfl rfl rfl rfl rfl rfl ⟨rfl, rfl, rfl, rfl, rfl⟩ rfl rfl rfl rfl rfl (by kernel_rfl) Try.func5 (by kernel_rfl)
    (of_decide_eq_true (by kernel_rfl)) (by unfold Func.isWrapper; first | (rw [if_pos (by decide +kernel)]; kernel_rfl) | (rw [if_neg (by decide +kernel)]; exact ⟨rfl, rfl⟩))
    (fun os started H enc _ => lifted os started H enc)

theorem proved : Rows.FamilyChangesSaid := over
end Go.Proofs.Ytkffpipcjdhbaaa.lawFamilyChanges
