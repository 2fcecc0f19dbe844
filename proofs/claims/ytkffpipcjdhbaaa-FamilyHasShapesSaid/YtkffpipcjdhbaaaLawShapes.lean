/- Rings, paths, stars, complete graphs and grids are valid graphs with the well-known diameters and numbers of links. No conditions: every input. -/
import Derived.Test.YtkffpipcjdhbaaaLaw3
import Derived.Test.YtkffpipcjdhbaaaFamShape3
import Derived.OpenShut
import Derived.ChangeOld
namespace Go.Proofs.Ytkffpipcjdhbaaa.lawFamilyHasShapes
open Go.ChangeShapes Go.WideShapes Go.ChangeAt Go.RowKit
set_option linter.unusedVariables false

/-- the struct at A holds a graph -/
structure BoxG (w : World) (A : Nat) (a1 : Option Addr) (l1 c1 : Nat) (a2 : Option Addr) (l2 c2 : Nat) (G : Gr) : Prop where
  c0 : w.cell? ⟨A, 0, none⟩ = some (.slice a1 l1 c1)
  c1 : w.cell? ⟨A, 1, none⟩ = some (.slice a2 l2 c2)
  g : GraphAt w a1 l1 a2 l2 G
theorem BoxG.below {w w' : World} {A : Nat} {a1 : Option Addr} {l1 c1 : Nat} {a2 : Option Addr} {l2 c2 : Nat} {G : Gr} (h : BoxG w A a1 l1 c1 a2 l2 c2 G) (hb : Below w.heap.size w w') : BoxG w' A a1 l1 c1 a2 l2 c2 G :=
  ⟨(hb.cell (p := ⟨A, 0, none⟩) (cell_lt h.c0)).trans h.c0, (hb.cell (p := ⟨A, 1, none⟩) (cell_lt h.c1)).trans h.c1, h.g.below hb⟩
theorem BoxG.make {w : World} {a1 : Option Addr} {l1 c1 : Nat} {a2 : Option Addr} {l2 c2 : Nat} {G : Gr} {t : TypeId} (h : GraphAt w a1 l1 a2 l2 G) : BoxG (w.alloc (.cells #[.slice a1 l1 c1, .slice a2 l2 c2] t)) w.heap.size a1 l1 c1 a2 l2 c2 G :=
  ⟨by simp [cell_push0], by simp [cell_push0], h.alloc _⟩
theorem mod_lit (k c : Int) (n : Nat) (hc : c = n) (z : Nat) (hz : k % (n : Int) = z) (wf : (Lit.int .i64 k).wf = true) (h1 : 1 ≤ n) (h2 : n ≤ 1000000) (W : World) :
    Calls Try.prog 33 #[.int .i64 k, .int .i64 c] W fun e w' => e = .returned (.int .i64 z) ∧ W = w' := by
  subst hc
  rw [← hz]
  exact mod_any k n W (wf_I64 wf) h1 h2
theorem relO_in {near : Nat → Nat → Bool} {n : Nat} (h1 : 1 ≤ n) (h2 : n ≤ 24) : relO near n = .inr (relG near n) := by
  unfold relO
  rw [if_pos (inB_mk ⟨by omega, by omega⟩), Int.toNat_natCast]

set_option maxHeartbeats 1000000 in
theorem shape_any (ia pa : Option Addr) (il ic pl pc : Nat) (G : Gr) (n l d : Nat) (w : World) (hG : GraphAt w ia il pa pl G) (hS : Shape G n l d) (h1 : n ≤ 24) (h2 : l ≤ 1000) (h3 : d ≤ 24) :
    Calls Try.prog 34 #[.agg #[.slice ia il ic, .slice pa pl pc], .int .i64 n, .int .i64 l, .int .i64 d] w fun e w' => e = .returned (.bool true) ∧ Below w.heap.size w w' := by
  have e1 := hS.nodesF
  have e2 := hS.linksF
  have e3 := hS.diam
  have e4 := validB_mk hS.valid
  go_enter Try.func34, Try.ntmps34
  go_wp2_with (first | (go_at_call 63; go_must (refine (size_any _ _ _ _ _ _ G _ (hG.alloc _)).mono ?_; rintro e w1 ⟨rfl, hb1⟩; rw [e1, e2]); have hbx : Below (w.heap.size + 1) (w.alloc (.cells #[.slice ia il ic, .slice pa pl pc] 26)) w1 := hb1.mono (by simp); have hx0 : w1.cell? ⟨w.heap.size, 0, none⟩ = some (.slice ia il ic) := boxed hbx 0; have hx1 : w1.cell? ⟨w.heap.size, 1, none⟩ = some (.slice pa pl pc) := boxed hbx 1) | (go_at_call 51; go_must (refine (valid_any _ _ _ _ _ _ G _ (hG.below (belBox hbx))).mono ?_; rintro e w2 ⟨rfl, hb2⟩; rw [e4]); have hbx2 := hbx.trans (hb2.mono (Nat.le_trans (by simp) hbx.size)); have hy0 : w2.cell? ⟨w.heap.size, 0, none⟩ = some (.slice ia il ic) := boxed hbx2 0; have hy1 : w2.cell? ⟨w.heap.size, 1, none⟩ = some (.slice pa pl pc) := boxed hbx2 1) | (go_at_call 64; go_must (refine (diameter_any _ _ _ _ _ _ G _ (hG.below (belBox hbx2))).mono ?_; rintro e w3 ⟨rfl, hb3⟩; rw [e3])))
  go_ret
  exact ⟨rfl, (belBox hbx2).trans (hb3.mono (belBox hbx2).size)⟩

theorem shape_lit {ia pa : Option Addr} {il ic pl pc : Nat} {G : Gr} {n l d : Nat} {ni li di : Int} {w : World} (hG : GraphAt w ia il pa pl G) (hS : Shape G n l d) (h1 : n ≤ 24) (h2 : l ≤ 1000) (h3 : d ≤ 24) (e1 : ni = n) (e2 : li = l) (e3 : di = d) :
    Calls Try.prog 34 #[.agg #[.slice ia il ic, .slice pa pl pc], .int .i64 ni, .int .i64 li, .int .i64 di] w fun e w' => e = .returned (.bool true) ∧ Below w.heap.size w w' := by
  subst e1 e2 e3
  exact shape_any ia pa il ic pl pc G n l d w hG hS h1 h2 h3
theorem prod_cast {n : Nat} (h1 : 3 ≤ n) (h2 : n ≤ 24) : (n : Int) * ((n : Int) - 1) = ((n * (n - 1) : Nat) : Int) ∧ n * (n - 1) ≤ 24 * 24 := by
  have e : ((n : Int) - 1) = ((n - 1 : Nat) : Int) := by omega
  rw [e]
  exact ⟨by simp, Nat.mul_le_mul h2 (by omega)⟩
theorem half_cast {n : Nat} (h1 : 3 ≤ n) (h2 : n ≤ 24) : wrap64 ((wrap64 ((n : Int) * ((n : Int) - 1))).tdiv 2) = ((n * (n - 1) / 2 : Nat) : Int) ∧ n * (n - 1) / 2 ≤ 1000 := by
  obtain ⟨e, hb⟩ := prod_cast h1 h2
  rw [e]
  generalize n * (n - 1) = m at hb
  rw [Go.IntWalk.wrap64_in (m : Int) ⟨by omega, by omega⟩, Int.tdiv_eq_ediv_of_nonneg (by omega), Go.IntWalk.wrap64_in _ ⟨by omega, by omega⟩]
  omega
theorem prod_less {a b : Nat} (h1 : 1 ≤ b) (ha : a ≤ 24) (hb : b ≤ 24) : (a : Int) * ((b : Int) - 1) = ((a * (b - 1) : Nat) : Int) ∧ a * (b - 1) ≤ 24 * 24 := by
  have e : ((b : Int) - 1) = ((b - 1 : Nat) : Int) := by omega
  rw [e]
  exact ⟨by simp, Nat.mul_le_mul ha (by omega)⟩
theorem grid_cast {a b : Nat} (h1 : 1 ≤ a) (h2 : a ≤ 4) (h3 : 1 ≤ b) (h4 : b ≤ 6) : wrap64 (wrap64 ((a : Int) * ((b : Int) - 1)) + wrap64 ((b : Int) * ((a : Int) - 1))) = ((a * (b - 1) + b * (a - 1) : Nat) : Int) ∧ a * (b - 1) + b * (a - 1) ≤ 1000 := by
  obtain ⟨e1, b1⟩ := prod_less (a := a) (b := b) h3 (by omega) (by omega)
  obtain ⟨e2, b2⟩ := prod_less (a := b) (b := a) h1 (by omega) (by omega)
  have b3 : a * (b - 1) ≤ 4 * 5 := Nat.mul_le_mul h2 (by omega)
  have b4 : b * (a - 1) ≤ 6 * 3 := Nat.mul_le_mul h4 (by omega)
  rw [e1, e2]
  generalize a * (b - 1) = x at b1 b3
  generalize b * (a - 1) = y at b2 b4
  rw [Go.IntWalk.wrap64_in (x : Int) ⟨by omega, by omega⟩, Go.IntWalk.wrap64_in (y : Int) ⟨by omega, by omega⟩, Go.IntWalk.wrap64_in _ ⟨by omega, by omega⟩]
  omega

set_option maxRecDepth 100000 in
set_option maxHeartbeats 2000000 in
theorem walk (w : World) (a0 : Int) (wf0 : (Lit.int .i64 a0).wf = true) (a1 : Int) (wf1 : (Lit.int .i64 a1).wf = true) (a2 : Int) (wf2 : (Lit.int .i64 a2).wf = true) :
    Calls Try.prog 6 #[.int .i64 a0, .int .i64 a1, .int .i64 a2] w fun e w' => e = .returned (.bool true) ∧ Below w.heap.size w w' := by
  obtain ⟨s0, hs0, hl0⟩ := mod_nat a0 (n := 22) (by decide)
  obtain ⟨s1, hs1, hl1⟩ := mod_nat a1 (n := 4) (by decide)
  obtain ⟨s2, hs2, hl2⟩ := mod_nat a2 (n := 6) (by decide)
  have m0 := mod_lit a0 22 22 rfl s0 hs0 wf0 (by decide) (by decide)
  have m1 := mod_lit a1 4 4 rfl s1 hs1 wf1 (by decide) (by decide)
  have m2 := mod_lit a2 6 6 rfl s2 hs2 wf2 (by decide) (by decide)
  obtain ⟨n, hn⟩ : ∃ n : Nat, (3 : Int) + s0 = n := ⟨3 + s0, by omega⟩
  obtain ⟨wd, hwd⟩ : ∃ n : Nat, (1 : Int) + s1 = n := ⟨1 + s1, by omega⟩
  obtain ⟨ht, hht⟩ : ∃ n : Nat, (1 : Int) + s2 = n := ⟨1 + s2, by omega⟩
  have hn1 : 3 ≤ n := by omega
  have hn2 : n ≤ 24 := by omega
  have hw1 : 1 ≤ wd := by omega
  have hw2 : wd ≤ 4 := by omega
  have hh1 : 1 ≤ ht := by omega
  have hh2 : ht ≤ 6 := by omega
  have hp1 : 1 ≤ wd * ht := Nat.mul_le_mul hw1 hh1
  have hp2 : wd * ht ≤ 4 * 6 := Nat.mul_le_mul hw2 hh2
  have S1 := Lib.hid (ring_shape hn1 hn2)
  have S2 := Lib.hid (path_shape (by omega) hn2)
  have S3 := Lib.hid (star_shape hn1 hn2)
  have S4 := Lib.hid (comp_shape hn1 hn2)
  have S5 := Lib.hid (grid_shape hw1 hw2 hh1 hh2)
  have c1 : Hid (∀ W : World, Calls Try.prog 11 #[.int .i64 n] W fun e w' => FamOwn W.heap.size (.inr (ringG n)) e w' ∧ Below W.heap.size W w') := Lib.hid (fun W => ringP_ok n W hn1 hn2)
  have c2 : Hid (∀ W : World, Calls Try.prog 14 #[.int .i64 n] W fun e w' => FamOwn W.heap.size (.inr (relG pathN n)) e w' ∧ Below W.heap.size W w') := Lib.hid (fun W => by
    have h := pathP_any n W
    rw [relO_in (by omega) hn2] at h
    exact h)
  have c3 : Hid (∀ W : World, Calls Try.prog 16 #[.int .i64 n] W fun e w' => FamOwn W.heap.size (.inr (relG starN n)) e w' ∧ Below W.heap.size W w') := Lib.hid (fun W => by
    have h := starP_any n W
    rw [relO_in (by omega) hn2] at h
    exact h)
  have c4 : Hid (∀ W : World, Calls Try.prog 18 #[.int .i64 n] W fun e w' => FamOwn W.heap.size (.inr (relG complN n)) e w' ∧ Below W.heap.size W w') := Lib.hid (fun W => by
    have h := complP_any n W
    rw [relO_in (by omega) hn2] at h
    exact h)
  have c5 : Hid (∀ W : World, Calls Try.prog 20 #[.int .i64 wd, .int .i64 ht] W fun e w' => FamOwn W.heap.size (.inr (relG (gridN wd) (wd * ht))) e w' ∧ Below W.heap.size W w') := Lib.hid (fun W => by
    have h := gridP_ok wd ht W hw1 (by omega) hh1 (by omega)
    rw [relO_in hp1 hp2] at h
    exact h)
  have Hn := Lib.hid hn
  have Hwd := Lib.hid hwd
  have Hht := Lib.hid hht
  clear hs0 hs1 hs2 hn hwd hht wf0 wf1 wf2
  go_enter Try.func6, Try.ntmps6
  go_wp2_with (go_at_call 33; (first | (with_reducible refine (m0 _).mono ?_) | (with_reducible refine (m1 _).mono ?_) | (with_reducible refine (m2 _).mono ?_)); rintro e w0 ⟨rfl, rfl⟩)
  rw [Hn.out, Hwd.out, Hht.out]
  refine (c1.out _).mono ?_
  rintro e w1 ⟨hF, hb⟩
  obtain ⟨p1, l1, k1, q1, r1, j1, rfl, hG⟩ := hF.says.graph
  have hG : GraphAt w1 p1 l1 q1 r1 (ringG n) := hG
  unfold famRet
  rw [show ∀ G : Gr, erO (.inr G) = 0 from fun _ => rfl]
  have hB1 := BoxG.make (c1 := k1) (c2 := j1) (t := 26) hG
  have hT := hb
  replace hT := hT.alloc hT.size (.cells #[.slice p1 l1 k1, .slice q1 r1 j1] 26)
  clear hF hG hb
  go_wp2_with fail
  obtain ⟨u1, hu⟩ : ∃ u1, u1 = w1.alloc (.cells #[.slice p1 l1 k1, .slice q1 r1 j1] 26) := ⟨_, rfl⟩
  obtain ⟨A1, hA⟩ : ∃ A1, A1 = w1.heap.size := ⟨_, rfl⟩
  rw [← hu] at hT ⊢
  rw [← hu] at hB1
  rw [← hA] at hB1 ⊢
  clear hu hA
  refine (c2.out _).mono ?_
  rintro e w2 ⟨hF, hb⟩
  obtain ⟨p2, l2, k2, q2, r2, j2, rfl, hG⟩ := hF.says.graph
  have hG : GraphAt w2 p2 l2 q2 r2 (relG pathN n) := hG
  unfold famRet
  rw [show ∀ G : Gr, erO (.inr G) = 0 from fun _ => rfl]
  have hB2 := BoxG.make (c1 := k2) (c2 := j2) (t := 26) hG
  have hT := hT.trans (hb.mono hT.size)
  replace hB1 := (hB1.below hb).below ((Below.refl _ _).alloc (Nat.le_refl _) (.cells #[.slice p2 l2 k2, .slice q2 r2 j2] 26))
  replace hT := hT.alloc hT.size (.cells #[.slice p2 l2 k2, .slice q2 r2 j2] 26)
  clear hF hG hb
  go_wp2_with fail
  obtain ⟨u2, hu⟩ : ∃ u2, u2 = w2.alloc (.cells #[.slice p2 l2 k2, .slice q2 r2 j2] 26) := ⟨_, rfl⟩
  obtain ⟨A2, hA⟩ : ∃ A2, A2 = w2.heap.size := ⟨_, rfl⟩
  rw [← hu] at hT ⊢
  rw [← hu] at hB1
  rw [← hu] at hB2
  rw [← hA] at hB2 ⊢
  clear hu hA
  refine (c3.out _).mono ?_
  rintro e w3 ⟨hF, hb⟩
  obtain ⟨p3, l3, k3, q3, r3, j3, rfl, hG⟩ := hF.says.graph
  have hG : GraphAt w3 p3 l3 q3 r3 (relG starN n) := hG
  unfold famRet
  rw [show ∀ G : Gr, erO (.inr G) = 0 from fun _ => rfl]
  have hB3 := BoxG.make (c1 := k3) (c2 := j3) (t := 26) hG
  have hT := hT.trans (hb.mono hT.size)
  replace hB1 := (hB1.below hb).below ((Below.refl _ _).alloc (Nat.le_refl _) (.cells #[.slice p3 l3 k3, .slice q3 r3 j3] 26))
  replace hB2 := (hB2.below hb).below ((Below.refl _ _).alloc (Nat.le_refl _) (.cells #[.slice p3 l3 k3, .slice q3 r3 j3] 26))
  replace hT := hT.alloc hT.size (.cells #[.slice p3 l3 k3, .slice q3 r3 j3] 26)
  clear hF hG hb
  go_wp2_with fail
  obtain ⟨u3, hu⟩ : ∃ u3, u3 = w3.alloc (.cells #[.slice p3 l3 k3, .slice q3 r3 j3] 26) := ⟨_, rfl⟩
  obtain ⟨A3, hA⟩ : ∃ A3, A3 = w3.heap.size := ⟨_, rfl⟩
  rw [← hu] at hT ⊢
  rw [← hu] at hB1
  rw [← hu] at hB2
  rw [← hu] at hB3
  rw [← hA] at hB3 ⊢
  clear hu hA
  refine (c4.out _).mono ?_
  rintro e w4 ⟨hF, hb⟩
  obtain ⟨p4, l4, k4, q4, r4, j4, rfl, hG⟩ := hF.says.graph
  have hG : GraphAt w4 p4 l4 q4 r4 (relG complN n) := hG
  unfold famRet
  rw [show ∀ G : Gr, erO (.inr G) = 0 from fun _ => rfl]
  have hB4 := BoxG.make (c1 := k4) (c2 := j4) (t := 26) hG
  have hT := hT.trans (hb.mono hT.size)
  replace hB1 := (hB1.below hb).below ((Below.refl _ _).alloc (Nat.le_refl _) (.cells #[.slice p4 l4 k4, .slice q4 r4 j4] 26))
  replace hB2 := (hB2.below hb).below ((Below.refl _ _).alloc (Nat.le_refl _) (.cells #[.slice p4 l4 k4, .slice q4 r4 j4] 26))
  replace hB3 := (hB3.below hb).below ((Below.refl _ _).alloc (Nat.le_refl _) (.cells #[.slice p4 l4 k4, .slice q4 r4 j4] 26))
  replace hT := hT.alloc hT.size (.cells #[.slice p4 l4 k4, .slice q4 r4 j4] 26)
  clear hF hG hb
  go_wp2_with fail
  obtain ⟨u4, hu⟩ : ∃ u4, u4 = w4.alloc (.cells #[.slice p4 l4 k4, .slice q4 r4 j4] 26) := ⟨_, rfl⟩
  obtain ⟨A4, hA⟩ : ∃ A4, A4 = w4.heap.size := ⟨_, rfl⟩
  rw [← hu] at hT ⊢
  rw [← hu] at hB1
  rw [← hu] at hB2
  rw [← hu] at hB3
  rw [← hu] at hB4
  rw [← hA] at hB4 ⊢
  clear hu hA
  refine (c5.out _).mono ?_
  rintro e w5 ⟨hF, hb⟩
  obtain ⟨p5, l5, k5, q5, r5, j5, rfl, hG⟩ := hF.says.graph
  have hG : GraphAt w5 p5 l5 q5 r5 (relG (gridN wd) (wd * ht)) := hG
  unfold famRet
  rw [show ∀ G : Gr, erO (.inr G) = 0 from fun _ => rfl]
  have hB5 := BoxG.make (c1 := k5) (c2 := j5) (t := 26) hG
  have hT := hT.trans (hb.mono hT.size)
  replace hB1 := (hB1.below hb).below ((Below.refl _ _).alloc (Nat.le_refl _) (.cells #[.slice p5 l5 k5, .slice q5 r5 j5] 26))
  replace hB2 := (hB2.below hb).below ((Below.refl _ _).alloc (Nat.le_refl _) (.cells #[.slice p5 l5 k5, .slice q5 r5 j5] 26))
  replace hB3 := (hB3.below hb).below ((Below.refl _ _).alloc (Nat.le_refl _) (.cells #[.slice p5 l5 k5, .slice q5 r5 j5] 26))
  replace hB4 := (hB4.below hb).below ((Below.refl _ _).alloc (Nat.le_refl _) (.cells #[.slice p5 l5 k5, .slice q5 r5 j5] 26))
  replace hT := hT.alloc hT.size (.cells #[.slice p5 l5 k5, .slice q5 r5 j5] 26)
  clear hF hG hb
  go_wp2_with fail
  obtain ⟨u5, hu⟩ : ∃ u5, u5 = w5.alloc (.cells #[.slice p5 l5 k5, .slice q5 r5 j5] 26) := ⟨_, rfl⟩
  obtain ⟨A5, hA⟩ : ∃ A5, A5 = w5.heap.size := ⟨_, rfl⟩
  rw [← hu] at hT ⊢
  rw [← hu] at hB1
  rw [← hu] at hB2
  rw [← hu] at hB3
  rw [← hu] at hB4
  rw [← hu] at hB5
  rw [← hA] at hB5 ⊢
  clear hu hA
  refine (awake_any _).mono ?_
  rintro e v ⟨rfl, hb⟩
  replace hT := hT.trans (hb.mono hT.size)
  replace hB1 := hB1.below hb
  replace hB2 := hB2.below hb
  replace hB3 := hB3.below hb
  replace hB4 := hB4.below hb
  replace hB5 := hB5.below hb
  clear hb
  have z0 := hB1.c0
  have z1 := hB1.c1
  go_wp2_with fail
  refine (shape_lit hB1.g S1.out (by omega) (by omega) (by omega) (by omega) (by omega) (by omega)).mono ?_
  rintro e v1 ⟨rfl, hb⟩
  clear z0 z1
  replace hT := hT.trans (hb.mono hT.size)
  replace hB1 := hB1.below hb
  replace hB2 := hB2.below hb
  replace hB3 := hB3.below hb
  replace hB4 := hB4.below hb
  replace hB5 := hB5.below hb
  clear hb
  have z0 := hB2.c0
  have z1 := hB2.c1
  go_wp2_with fail
  refine (shape_lit hB2.g S2.out (by omega) (by omega) (by omega) (by omega) (by omega) (by omega)).mono ?_
  rintro e v2 ⟨rfl, hb⟩
  clear z0 z1
  replace hT := hT.trans (hb.mono hT.size)
  replace hB1 := hB1.below hb
  replace hB2 := hB2.below hb
  replace hB3 := hB3.below hb
  replace hB4 := hB4.below hb
  replace hB5 := hB5.below hb
  clear hb
  have z0 := hB3.c0
  have z1 := hB3.c1
  go_wp2_with fail
  refine (shape_lit hB3.g S3.out (by omega) (by omega) (by omega) (by omega) (by omega) (by omega)).mono ?_
  rintro e v3 ⟨rfl, hb⟩
  clear z0 z1
  replace hT := hT.trans (hb.mono hT.size)
  replace hB1 := hB1.below hb
  replace hB2 := hB2.below hb
  replace hB3 := hB3.below hb
  replace hB4 := hB4.below hb
  replace hB5 := hB5.below hb
  clear hb
  have z0 := hB4.c0
  have z1 := hB4.c1
  go_wp2_with fail
  refine (shape_lit hB4.g S4.out (by omega) (half_cast hn1 hn2).2 (by omega) rfl (half_cast hn1 hn2).1 rfl).mono ?_
  rintro e v4 ⟨rfl, hb⟩
  clear z0 z1
  replace hT := hT.trans (hb.mono hT.size)
  replace hB1 := hB1.below hb
  replace hB2 := hB2.below hb
  replace hB3 := hB3.below hb
  replace hB4 := hB4.below hb
  replace hB5 := hB5.below hb
  clear hb
  have z0 := hB5.c0
  have z1 := hB5.c1
  go_wp2_with fail
  refine (shape_lit hB5.g S5.out hp2 (grid_cast hw1 hw2 hh1 hh2).2 (by omega) (by simp) (grid_cast hw1 hw2 hh1 hh2).1 (by omega)).mono ?_
  rintro e v5 ⟨rfl, hb⟩
  clear z0 z1
  replace hT := hT.trans (hb.mono hT.size)
  replace hB1 := hB1.below hb
  replace hB2 := hB2.below hb
  replace hB3 := hB3.below hb
  replace hB4 := hB4.below hb
  replace hB5 := hB5.below hb
  clear hb
  have z0 := hB2.c0
  have z1 := hB2.c1
  go_wp2_with fail
  refine (tree_any _ _ _ _ _ _ _ _ hB2.g).mono ?_
  rintro e x1 ⟨rfl, hb⟩
  rw [S2.out.tree (by omega)]
  clear z0 z1
  replace hT := hT.trans (hb.mono hT.size)
  replace hB1 := hB1.below hb
  replace hB2 := hB2.below hb
  replace hB3 := hB3.below hb
  replace hB4 := hB4.below hb
  replace hB5 := hB5.below hb
  clear hb
  have z0 := hB3.c0
  have z1 := hB3.c1
  go_wp2_with fail
  refine (tree_any _ _ _ _ _ _ _ _ hB3.g).mono ?_
  rintro e x2 ⟨rfl, hb⟩
  rw [S3.out.tree (by omega)]
  clear z0 z1
  replace hT := hT.trans (hb.mono hT.size)
  replace hB1 := hB1.below hb
  replace hB2 := hB2.below hb
  replace hB3 := hB3.below hb
  replace hB4 := hB4.below hb
  replace hB5 := hB5.below hb
  clear hb
  have z0 := hB1.c0
  have z1 := hB1.c1
  go_wp2_with fail
  refine (tree_any _ _ _ _ _ _ _ _ hB1.g).mono ?_
  rintro e x3 ⟨rfl, hb⟩
  rw [S1.out.noTree (by omega)]
  clear z0 z1
  replace hT := hT.trans (hb.mono hT.size)
  replace hB1 := hB1.below hb
  replace hB2 := hB2.below hb
  replace hB3 := hB3.below hb
  replace hB4 := hB4.below hb
  replace hB5 := hB5.below hb
  clear hb
  go_wp2_with fail
  go_ret
  exact ⟨rfl, hT⟩

set_option maxRecDepth 100000 in
theorem lifted (os : Os) (started : os.Started) (H : Type) (enc : TypeId × Value → H) :
    ReturnsInHanded {} Try.checked os 6 .any (Rows.familyHasShapesSpec.pre6 enc Try.prog Try.f6 Rows.familyHasShapesRow.domain false) (Rows.familyHasShapesSpec.post enc Try.prog Try.f6 false true false false) := by
  refine returnsInHanded_of_change (C := Try.checked) own started (by kernel_rfl) Try.func6
    (ChangeSpec.witness6 (enc := enc) (C := Try.checked) false ⟨#[], #[.int .i64 0, .int .i64 0, .int .i64 0], []⟩ 8 (by kernel_rfl) (by kernel_rfl) (by kernel_rfl) (by kernel_rfl)) ?_
  intro W base args ds gs before hval0 hW hcnd _
  have hval : ∀ (j : Nat) t v, Try.f6.params[j]? = some t → args[j]? = some v → Value.okWide Try.prog W .any base t v := hval0
  have hW' := hW
  obtain ⟨p, q, hA0, hV, rfl, hfz, hnd⟩ := hW
  have hA : DataW.TrodAll enc Try.prog W 0 (fun _ => true) true Try.f6.params.toList args.toList ds p := hA0
  rw [Try.params6] at hA hval
  obtain ⟨v0, vs0, d0, ds0, p0, q0, hargs, rfl, rfl, h0, r0⟩ := trodAll_cons hA
  obtain ⟨v1, vs1, d1, ds1, p1, q1, rfl, rfl, rfl, h1, r1⟩ := trodAll_cons r0
  obtain ⟨v2, vs2, d2, ds2, p2, q2, rfl, rfl, rfl, h2, r2⟩ := trodAll_cons r1
  obtain ⟨rfl, rfl, rfl⟩ := trodAll_nil r2
  obtain rfl : args = #[v0, v1, v2] := by cases args; simp_all
  obtain ⟨rfl, rfl⟩ := trodVars_none hV
  have k0 := h0
  have lt0 : ∀ x ∈ p0, x.block < W.heap.size := by obtain ⟨m, hm⟩ := k0; exact DataW.trod_lt m _ _ _ hm
  obtain ⟨a0, rfl, rfl, rfl, w0⟩ := open_int Try.underlying3 (hval 0 3 v0 rfl rfl) h0
  have k1 := h1
  have lt1 : ∀ x ∈ p1, x.block < W.heap.size := by obtain ⟨m, hm⟩ := k1; exact DataW.trod_lt m _ _ _ hm
  obtain ⟨a1, rfl, rfl, rfl, w1⟩ := open_int Try.underlying3 (hval 1 3 v1 rfl rfl) h1
  have k2 := h2
  have lt2 : ∀ x ∈ p2, x.block < W.heap.size := by obtain ⟨m, hm⟩ := k2; exact DataW.trod_lt m _ _ _ hm
  obtain ⟨a2, rfl, rfl, rfl, w2⟩ := open_int Try.underlying3 (hval 2 3 v2 rfl rfl) h2
  clear hA0 hval0
  refine (walk W a0 w0 a1 w1 a2 w2).mono fun e W' ⟨he, bel⟩ => ?_
  subst he
  exact ⟨_, rfl, _, _, _, [], _, [], hW', trodAll_mk1 (shut_bool Try.underlying4 _), (trodAll_cons_mk (Below.trod laidOut (by kernel_rfl) (of_decide_eq_true (by kernel_rfl)) k0 bel lt0) (trodAll_cons_mk (Below.trod laidOut (by kernel_rfl) (of_decide_eq_true (by kernel_rfl)) k1 bel lt1) (trodAll_cons_mk (Below.trod laidOut (by kernel_rfl) (of_decide_eq_true (by kernel_rfl)) k2 bel lt2) trodAll_mk0))), rfl, bel.frame _, fun h => by cases h⟩

theorem over : Rows.familyHasShapesRow.holds Try.pinned (OpenSpec.ofChange Rows.familyHasShapesSpec) :=
  OpenClaim.holds_of_wide 6 Try.f6 rfl rfl rfl rfl rfl rfl rfl ⟨rfl, rfl, rfl, rfl, rfl⟩ rfl rfl rfl rfl rfl (by kernel_rfl) Try.func6 (by kernel_rfl)
    (of_decide_eq_true (by kernel_rfl)) (by unfold Func.isWrapper; first | (rw [if_pos (by decide +kernel)]; kernel_rfl) | (rw [if_neg (by decide +kernel)]; exact ⟨rfl, rfl⟩))
    (fun os started H enc _ => lifted os started H enc)

theorem proved : Rows.FamilyHasShapesSaid := over
end Go.Proofs.Ytkffpipcjdhbaaa.lawFamilyHasShapes
