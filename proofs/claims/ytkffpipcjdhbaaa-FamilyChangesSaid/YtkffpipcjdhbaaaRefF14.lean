/- What Cut of the specification of layer 3 answers. -/
import Derived.Test.YtkffpipcjdhbaaaFamCut
import Derived.Test.YtkffpipcjdhbaaaRefF12
import Derived.Test.YtkffpipcjdhbaaaRefF13
namespace Go.Proofs.Ytkffpipcjdhbaaa
open Go.RowKit

/-- the rows of a graph that was handed over lie within their capacity -/
def CapsAt (w : World) (pa : Option Addr) (ps : List (List (Int × Int))) : Prop :=
  0 < ps.length → ∃ b o, pa = some ⟨b, o, none⟩ ∧ b < w.heap.size ∧ ∀ v, v < ps.length → ∃ la lc, w.cell? ⟨b, o + v, none⟩ = some (.slice la (rowA ps v).length lc) ∧ LinksAt w la (rowA ps v) ∧ (rowA ps v).length ≤ lc
theorem CapsAt.below {w w' : World} {pa : Option Addr} {ps : List (List (Int × Int))} (h : CapsAt w pa ps) (hb : Below w.heap.size w w') : CapsAt w' pa ps := by
  intro h0
  obtain ⟨b, o, e, hlt, hc⟩ := h h0
  refine ⟨b, o, e, Nat.lt_of_lt_of_le hlt hb.size, fun v hv => ?_⟩
  obtain ⟨la, lc, h1, h2, h3⟩ := hc v hv
  exact ⟨la, lc, (hb.cell (p := ⟨b, o + v, none⟩) hlt).trans h1, h2.below hb, h3⟩
theorem Made.newL {W w w' : World} {gb i : Nat} {x1 x2 v1 v2 u : Value} {zs : List Int} {hs : List Value} {us : List (Value × List (Int × Int))} {xs : List (Int × Int)} (h : Made W gb w x1 x2 v1 zs v2 hs us) (hi : i < us.length) (hb : Below w.heap.size w w') (ho : w'.ownsRow w.heap.size 50 2 u xs.length (linkVs xs)) :
    Made W gb w' x1 x2 v1 zs v2 hs (us.set i (u, xs)) :=
  h.turn hi _ ⟨hb.os, hb.tape, hb.output, hb.size, fun k hk _ => hb.block k hk⟩ (Go.Joins.ownsRow_le ho h.fr.size) (fun g' e => .inr (World.ownsRow.lt ho g' e).1)
set_option linter.unusedSimpArgs false in
set_option maxHeartbeats 4000000 in
set_option maxRecDepth 100000 in
theorem cutE_any (ia pa : Option Addr) (il ic pl pc : Nat) (G : Gr) (a b : Int) (w : World) (hG : GraphAt w ia il pa pl G) (k : Int)
    (hcase : (validB G = false ∧ k = 1) ∨ (validB G = true ∧ nodesB pl a b = false ∧ k = 2) ∨ (∃ A B : Nat, a = A ∧ b = B ∧ A < pl ∧ validB G = true ∧ nodesB pl A B = true ∧ portF (rowA G.ps A) B < 0 ∧ k = 2)) :
    Calls Try.prog 30 #[.agg #[.slice ia il ic, .slice pa pl pc], .int .i64 a, .int .i64 b] w fun e w' => FamSays (.inl k) e w' ∧ Below w.heap.size w w' := by
  have hbel0 : Below w.heap.size w ((w.alloc (.cells #[.slice ia il ic, .slice pa pl pc] 26)).alloc (.cells #[.slice none 0 0, .slice none 0 0] 26)) := ((Below.refl _ _).alloc (Nat.le_refl _) _).alloc (by simp) _
  have HGX := Lib.hid (hG.below hbel0)
  obtain ⟨W, hW⟩ : ∃ W, W = (w.alloc (.cells #[.slice ia il ic, .slice pa pl pc] 26)).alloc (.cells #[.slice none 0 0, .slice none 0 0] 26) := ⟨_, rfl⟩
  have hWs : W.heap.size = w.heap.size + 2 := by rw [hW]; simp
  have HBX0 : Hid (W.cell? ⟨w.heap.size, 0, none⟩ = some (.slice ia il ic)) := Lib.hid (by rw [hW]; simp [cell_push0])
  have HBX1 : Hid (W.cell? ⟨w.heap.size, 1, none⟩ = some (.slice pa pl pc)) := Lib.hid (by rw [hW]; simp [cell_push0])
  have HR0 : Hid (W.cell? ⟨w.heap.size + 1, 0, none⟩ = some (.slice none 0 0)) := Lib.hid (by rw [hW]; simp [cell_push0])
  have HR1 : Hid (W.cell? ⟨w.heap.size + 1, 1, none⟩ = some (.slice none 0 0)) := Lib.hid (by rw [hW]; simp [cell_push0])
  have HF0 : Hid (W.frozen? ⟨w.heap.size + 1, 0, none⟩ = false) := Lib.hid (by rw [hW]; simp [free_push0])
  have HF1 : Hid (W.frozen? ⟨w.heap.size + 1, 1, none⟩ = false) := Lib.hid (by rw [hW]; simp [free_push0])
  rw [← hW] at hbel0
  have HB := Lib.hid hbel0
  have HFit := Lib.hid (fit_ps hG)
  have HIL := Lib.hid hG.il
  have HPL := Lib.hid hG.pl
  have HW := Lib.hid hW
  clear hbel0 hW hG
  have hpm : pl ≤ maxLen := by rw [HPL.out]; exact HGX.out.ports.size
  have HS : Hid (∀ X, Below W.heap.size W X → X.cell? ⟨w.heap.size, 0, none⟩ = some (.slice ia il ic) ∧ X.cell? ⟨w.heap.size, 1, none⟩ = some (.slice pa pl pc) ∧ X.cell? ⟨w.heap.size + 1, 0, none⟩ = some (.slice none 0 0) ∧ X.cell? ⟨w.heap.size + 1, 1, none⟩ = some (.slice none 0 0) ∧ X.frozen? ⟨w.heap.size + 1, 0, none⟩ = false ∧ X.frozen? ⟨w.heap.size + 1, 1, none⟩ = false) := Lib.hid (fun X h =>
    ⟨(h.cell (p := ⟨w.heap.size, 0, none⟩) (by simp; omega)).trans HBX0.out, (h.cell (p := ⟨w.heap.size, 1, none⟩) (by simp; omega)).trans HBX1.out, (h.cell (p := ⟨w.heap.size + 1, 0, none⟩) (by simp; omega)).trans HR0.out, (h.cell (p := ⟨w.heap.size + 1, 1, none⟩) (by simp; omega)).trans HR1.out, (h.frozen (p := ⟨w.heap.size + 1, 0, none⟩) (by simp; omega)).trans HF0.out, (h.frozen (p := ⟨w.heap.size + 1, 1, none⟩) (by simp; omega)).trans HF1.out⟩)
  rcases hcase with ⟨hv, rfl⟩ | ⟨hv, hn, rfl⟩ | ⟨A, B, rfl, rfl, hA, hv, hn, hp, rfl⟩
  · skip
    go_enter Try.func30, Try.ntmps30
    go_wp2_with (first | (go_at_call 37; (with_reducible refine (refValid_any _ _ _ _ _ _ G _ HGX.out).mono ?_); rintro e w1 ⟨rfl, hb1⟩; rw [← HW.out] at hb1; have HB1 := Lib.hid hb1; have HX := Lib.hid hb1; have bx := HS.out _ hb1; obtain ⟨b0, b1, e0, e1, e2, e3⟩ := bx; clear hb1))
    refine bodyPost_ret (v := .tuple #[.agg #[.slice none 0 0, .slice none 0 0], .int .i64 1]) (by rw [results_c1 rfl]; go_simp) rfl ?_
    exact ⟨rfl, ((HB.out.trans (HX.out.mono HB.out.size)).setCell (p := ⟨w.heap.size + 1, 0, none⟩) (by simp) _).setCell (p := ⟨w.heap.size + 1, 1, none⟩) (by simp) _⟩
  · skip
    go_enter Try.func30, Try.ntmps30
    go_wp2_with (first | (go_at_call 37; (with_reducible refine (refValid_any _ _ _ _ _ _ G _ HGX.out).mono ?_); rintro e w1 ⟨rfl, hb1⟩; rw [← HW.out] at hb1; have HB1 := Lib.hid hb1; have HX := Lib.hid hb1; have bx := HS.out _ hb1; obtain ⟨b0, b1, e0, e1, e2, e3⟩ := bx; clear hb1) | (go_at_call 60; (with_reducible refine (nodes_any ia pa il ic pl pc _ _ _ hpm).mono ?_); rintro e w2 ⟨rfl, hb2⟩; clear b0 b1 e0 e1 e2 e3; have HB2 := Lib.hid (HB1.out.trans (hb2.mono HB1.out.size)); have bx := HS.out _ HB2.out; obtain ⟨b0, b1, e0, e1, e2, e3⟩ := bx; clear HX; have HX := HB2; clear hb2))
    refine bodyPost_ret (v := .tuple #[.agg #[.slice none 0 0, .slice none 0 0], .int .i64 2]) (by rw [results_c1 rfl]; go_simp) rfl ?_
    exact ⟨rfl, ((HB.out.trans (HX.out.mono HB.out.size)).setCell (p := ⟨w.heap.size + 1, 0, none⟩) (by simp) _).setCell (p := ⟨w.heap.size + 1, 1, none⟩) (by simp) _⟩
  · have hd : decide (portF (rowA G.ps A) B < 0) = true := by simp [hp]
    go_enter Try.func30, Try.ntmps30
    go_wp2_with (first | (go_at_call 37; (with_reducible refine (refValid_any _ _ _ _ _ _ G _ HGX.out).mono ?_); rintro e w1 ⟨rfl, hb1⟩; rw [← HW.out] at hb1; have HB1 := Lib.hid hb1; have HX := Lib.hid hb1; have bx := HS.out _ hb1; obtain ⟨b0, b1, e0, e1, e2, e3⟩ := bx; clear hb1) | (go_at_call 60; (with_reducible refine (nodes_any ia pa il ic pl pc _ _ _ hpm).mono ?_); rintro e w2 ⟨rfl, hb2⟩; clear b0 b1 e0 e1 e2 e3; have HB2 := Lib.hid (HB1.out.trans (hb2.mono HB1.out.size)); have bx := HS.out _ HB2.out; obtain ⟨b0, b1, e0, e1, e2, e3⟩ := bx; clear HX; have HX := HB2; clear hb2) | (go_at_call 61; (with_reducible refine (port_any ia pa il ic pl pc G A (B : Int) _ ((HW.out ▸ HGX.out).below HB2.out) hA).mono ?_); rintro e w3 ⟨rfl, hb3⟩; clear b0 b1 e0 e1 e2 e3; have HB3 := Lib.hid (HB2.out.trans (hb3.mono HB2.out.size)); have bx := HS.out _ HB3.out; obtain ⟨b0, b1, e0, e1, e2, e3⟩ := bx; clear HX; have HX := HB3; clear hb3))
    refine bodyPost_ret (v := .tuple #[.agg #[.slice none 0 0, .slice none 0 0], .int .i64 2]) (by rw [results_c1 rfl]; go_simp) rfl ?_
    exact ⟨rfl, ((HB.out.trans (HX.out.mono HB.out.size)).setCell (p := ⟨w.heap.size + 1, 0, none⟩) (by simp) _).setCell (p := ⟨w.heap.size + 1, 1, none⟩) (by simp) _⟩
set_option linter.unusedSimpArgs false in
set_option maxHeartbeats 4000000 in
set_option maxRecDepth 100000 in
theorem cut_ok (ia pa : Option Addr) (il ic pl pc : Nat) (G : Gr) (A B : Nat) (w : World) (hG : GraphAt w ia il pa pl G) (hC : CapsAt w pa G.ps)
    (hv : validB G = true) (hA : A < pl) (hB : B < pl) (hne : A ≠ B) (hn : nodesB pl A B = true) (hp : 0 ≤ portF (rowA G.ps A) B) :
    Calls Try.prog 30 #[.agg #[.slice ia il ic, .slice pa pl pc], .int .i64 A, .int .i64 B] w fun e w' => FamSays (.inr (cutG G A B)) e w' ∧ Below w.heap.size w w' := by
  have HFG := Lib.hid (show FitG G from ⟨hG.ids.fits, fit_ps hG⟩)
  have hbel0 : Below w.heap.size w ((w.alloc (.cells #[.slice ia il ic, .slice pa pl pc] 26)).alloc (.cells #[.slice none 0 0, .slice none 0 0] 26)) := ((Below.refl _ _).alloc (Nat.le_refl _) _).alloc (by simp) _
  have HGX := Lib.hid (hG.below hbel0)
  have HCX := Lib.hid (hC.below hbel0)
  obtain ⟨W, hW⟩ : ∃ W, W = (w.alloc (.cells #[.slice ia il ic, .slice pa pl pc] 26)).alloc (.cells #[.slice none 0 0, .slice none 0 0] 26) := ⟨_, rfl⟩
  have hWs : W.heap.size = w.heap.size + 2 := by rw [hW]; simp
  have HBX0 : Hid (W.cell? ⟨w.heap.size, 0, none⟩ = some (.slice ia il ic)) := Lib.hid (by rw [hW]; simp [cell_push0])
  have HBX1 : Hid (W.cell? ⟨w.heap.size, 1, none⟩ = some (.slice pa pl pc)) := Lib.hid (by rw [hW]; simp [cell_push0])
  have HR0 : Hid (W.cell? ⟨w.heap.size + 1, 0, none⟩ = some (.slice none 0 0)) := Lib.hid (by rw [hW]; simp [cell_push0])
  have HR1 : Hid (W.cell? ⟨w.heap.size + 1, 1, none⟩ = some (.slice none 0 0)) := Lib.hid (by rw [hW]; simp [cell_push0])
  have HF0 : Hid (W.frozen? ⟨w.heap.size + 1, 0, none⟩ = false) := Lib.hid (by rw [hW]; simp [free_push0])
  have HF1 : Hid (W.frozen? ⟨w.heap.size + 1, 1, none⟩ = false) := Lib.hid (by rw [hW]; simp [free_push0])
  rw [← hW] at hbel0
  have HB := Lib.hid hbel0
  have HFit := Lib.hid (fit_ps hG)
  have HIL := Lib.hid hG.il
  have HPL := Lib.hid hG.pl
  have HW := Lib.hid hW
  clear hbel0 hW hG hC
  have hpm : pl ≤ maxLen := by rw [HPL.out]; exact HGX.out.ports.size
  have HS : Hid (∀ X, Below W.heap.size W X → X.cell? ⟨w.heap.size, 0, none⟩ = some (.slice ia il ic) ∧ X.cell? ⟨w.heap.size, 1, none⟩ = some (.slice pa pl pc) ∧ X.cell? ⟨w.heap.size + 1, 0, none⟩ = some (.slice none 0 0) ∧ X.cell? ⟨w.heap.size + 1, 1, none⟩ = some (.slice none 0 0) ∧ X.frozen? ⟨w.heap.size + 1, 0, none⟩ = false ∧ X.frozen? ⟨w.heap.size + 1, 1, none⟩ = false) := Lib.hid (fun X h =>
    ⟨(h.cell (p := ⟨w.heap.size, 0, none⟩) (by simp; omega)).trans HBX0.out, (h.cell (p := ⟨w.heap.size, 1, none⟩) (by simp; omega)).trans HBX1.out, (h.cell (p := ⟨w.heap.size + 1, 0, none⟩) (by simp; omega)).trans HR0.out, (h.cell (p := ⟨w.heap.size + 1, 1, none⟩) (by simp; omega)).trans HR1.out, (h.frozen (p := ⟨w.heap.size + 1, 0, none⟩) (by simp; omega)).trans HF0.out, (h.frozen (p := ⟨w.heap.size + 1, 1, none⟩) (by simp; omega)).trans HF1.out⟩)
  have hV := validB_iff.1 hv
  have hpl24 : pl ≤ 24 := by have := hV.le; have := HPL.out; omega
  have hpl : pl ≤ 1000 := by omega
  have hil : il ≤ 1000 := by have := hV.le; have := hV.ids; have := HIL.out; omega
  have hrow : ∀ v, v < pl → (rowA G.ps v).length ≤ 1000 := fun v hv => by
    have h1 := HPL.out
    have h2 := (hV.links v (by omega)).len (by omega)
    have := hV.le
    omega
  have hrA := hrow A hA
  have hrB := hrow B hB
  have HRW := Lib.hid hrow
  have hd : decide (portF (rowA G.ps A) B < 0) = false := by simp; omega
  obtain ⟨pA, hpA⟩ : ∃ p : Nat, portF (rowA G.ps A) B = p := ⟨_, (Int.toNat_of_nonneg hp).symm⟩
  have hpB0 := back_link hV (by rw [← HPL.out]; exact hA) hp
  obtain ⟨pB, hpB⟩ : ∃ p : Nat, portF (rowA G.ps B) A = p := ⟨_, (Int.toNat_of_nonneg hpB0).symm⟩
  have hlA := (only_link hV (by rw [← HPL.out]; exact hA) hp).1
  have hlB := (only_link hV (by rw [← HPL.out]; exact hB) hpB0).1
  rw [hpA, Int.toNat_natCast] at hlA
  rw [hpB, Int.toNat_natCast] at hlB
  have HpA := Lib.hid hpA
  have HpB := Lib.hid hpB
  clear hpA hpB hpB0
  have HNE := Lib.hid hne
  clear hV hrow hne
  go_enter Try.func30, Try.ntmps30
  go_wp2_with (first | (go_at_call 37; (with_reducible refine (refValid_any _ _ _ _ _ _ G _ HGX.out).mono ?_); rintro e w1 ⟨rfl, hb1⟩; rw [← HW.out] at hb1; have HB1 := Lib.hid hb1; have HX := Lib.hid hb1; have bx := HS.out _ hb1; obtain ⟨b0, b1, e0, e1, e2, e3⟩ := bx; clear hb1) | (go_at_call 60; (with_reducible refine (nodes_any ia pa il ic pl pc _ _ _ hpm).mono ?_); rintro e w2 ⟨rfl, hb2⟩; clear b0 b1 e0 e1 e2 e3; have HB2 := Lib.hid (HB1.out.trans (hb2.mono HB1.out.size)); have bx := HS.out _ HB2.out; obtain ⟨b0, b1, e0, e1, e2, e3⟩ := bx; clear HX; have HX := HB2; clear hb2) | (go_at_call 61; (with_reducible refine (port_any ia pa il ic pl pc G A (B : Int) _ ((HW.out ▸ HGX.out).below HB2.out) hA).mono ?_); rintro e w3 ⟨rfl, hb3⟩; clear b0 b1 e0 e1 e2 e3; have HB3 := Lib.hid (HB2.out.trans (hb3.mono HB2.out.size)); have bx := HS.out _ HB3.out; obtain ⟨b0, b1, e0, e1, e2, e3⟩ := bx; clear HX; have HX := HB3; clear hb3) | (go_at_call 55; (with_reducible refine (copy_any ia pa il ic pl pc G _ ((HW.out ▸ HGX.out).below HB3.out) hil hpl HRW.out).mono ?_); rintro e w4 ⟨⟨a1, q1, a2, q2, us0, rfl, hus, hA2⟩, hb4⟩))

  clear b0 b1 e0 e1 e2 e3
  obtain ⟨a0, _, ea, _, p2⟩ := own_slice (hA2.own (hdrR (.slice a2 pl q2) (us0.map Prod.fst)) (by simp))
  have hul : us0.length = pl := by rw [HPL.out, ← hus]; simp
  obtain ⟨hb, rfl, _⟩ : ∃ g, a2 = some ⟨g, 0, none⟩ ∧ g < w4.heap.size := by
    injection ea with ea
    rw [ea]
    exact p2 (by simp [hdrR, hul]; omega)
  clear ea p2 hul
  have hM0 := Made.box (z1 := .slice a1 il q1) (z2 := .slice (some ⟨hb, 0, none⟩) pl q2) (t := 26) hA2 hb4
  have HR0 : Hid (RowsR pl (fun v => rowA G.ps v) us0) := Lib.hid (by rw [HPL.out]; exact rowsR_of hus)
  have hs3 := HB3.out.size
  have hs4 := hb4.size
  obtain ⟨wr0, hwr0⟩ : ∃ x, x = w4.alloc (.cells #[.slice a1 il q1, .slice (some ⟨hb, 0, none⟩) pl q2] 26) := ⟨_, rfl⟩
  rw [← hwr0] at hM0 ⊢
  clear hwr0 hA2 hb4 hus
  obtain ⟨gb, hgb⟩ : ∃ gb, gb = w4.heap.size := ⟨_, rfl⟩
  rw [← hgb] at hM0 hs4 ⊢
  clear hgb
  have HM0 := Lib.hid hM0
  clear hM0
  have HCW : Hid (∀ X, Below W.heap.size W X → CapsAt X pa G.ps) := Lib.hid (fun X h => (HW.out ▸ HCX.out).below h)
  have HGW : Hid (∀ X, Below W.heap.size W X → GraphAt X ia il pa pl G) := Lib.hid (fun X h => (HW.out ▸ HGX.out).below h)
  have HB4_0 : Hid (Below W.heap.size W wr0) := Lib.hid (HB3.out.trans (HM0.out.fr.mono HB3.out.size))
  obtain ⟨pb0, po0, hpe0, hpl0, hpc0⟩ := HCW.out _ HB4_0.out (by rw [← HPL.out]; omega)
  obtain ⟨la0, lc0, hcA0, hLA0, hcap0⟩ := hpc0 A (by rw [← HPL.out]; exact hA)
  obtain ⟨rb0, ro0, hre0, hrl0, _⟩ := hLA0.row (by omega)
  subst hre0
  clear hpc0
  have hpe0' : pa = some ⟨pb0, po0, none⟩ := hpe0
  have HRC0 : Hid (∀ X, Below wr0.heap.size wr0 X → X.cell? ⟨pb0, po0 + A, none⟩ = some (.slice (some ⟨rb0, ro0, none⟩) (rowA G.ps A).length lc0)) := Lib.hid (fun X h => (h.cell (p := ⟨pb0, po0 + A, none⟩) hpl0).trans hcA0)
  have HLA0 := Lib.hid hLA0
  obtain ⟨ua0, uc0, hu0, hh0⟩ := HM0.out.rowAt HR0.out hA (xs := rowA G.ps A) rfl
  have HH0 := Lib.hid hh0
  have hul0 : A < us0.length := (List.getElem?_eq_some_iff.1 hu0).1
  clear hu0 hh0 hLA0 hcA0
  have bx := HS.out _ HB4_0.out
  obtain ⟨b0, b1, _, _, _, _⟩ := bx
  have m1 := HM0.out.c1
  have rc := HRC0.out _ (Below.refl _ _)
  subst hpe0
  refine keep_start (fun w' => w'.cell? ⟨gb, 1, none⟩ = some (.slice (some ⟨hb, 0, none⟩) pl q2) ∧ w'.cell? ⟨w.heap.size, 0, none⟩ = some (.slice ia il ic) ∧ w'.cell? ⟨w.heap.size, 1, none⟩ = some (.slice (some ⟨pb0, po0, none⟩) pl pc) ∧ w'.cell? ⟨pb0, po0 + A, none⟩ = some (.slice (some ⟨rb0, ro0, none⟩) (rowA G.ps A).length lc0)) [14] (by kernel_rfl) ?_
  (refine keep_pure 0 (v := ?_) rfl (by kernel_rfl) (by kernel_rfl) (by kernel_rfl) (by kernel_rfl) (fun _ _ _ h => h) (Or.inl ⟨by rfl, ?_⟩) (.inr (by exact ⟨m1, b0, b1, rc⟩)) ?_; rotate_left 1; focus (intro _; go_simp; (try go_ints); try (with_reducible rfl)); (try simp only [Act.put, List.setIfInBounds_toArray, List.set_cons_zero, List.set_cons_succ]))
  (refine keep_pure 2 (v := ?_) rfl (by kernel_rfl) (by kernel_rfl) (by kernel_rfl) (by kernel_rfl) (fun _ _ _ h => h) (Or.inl ⟨by rfl, ?_⟩) (.inr (by exact ⟨m1, b0, b1, rc⟩)) ?_; rotate_left 1; focus (intro _; go_simp; (try go_ints); try (with_reducible rfl)); (try simp only [Act.put, List.setIfInBounds_toArray, List.set_cons_zero, List.set_cons_succ]))
  (refine keep_pure 3 (v := ?_) rfl (by kernel_rfl) (by kernel_rfl) (by kernel_rfl) (by kernel_rfl) (fun _ _ _ h => h) (Or.inl ⟨by rfl, ?_⟩) (.inr (by exact ⟨m1, b0, b1, rc⟩)) ?_; rotate_left 1; focus (intro _; go_simp; (try go_ints); try (with_reducible rfl)); (try simp only [Act.put, List.setIfInBounds_toArray, List.set_cons_zero, List.set_cons_succ]))
  (refine keep_pure 5 (v := ?_) rfl (by kernel_rfl) (by kernel_rfl) (by kernel_rfl) (by kernel_rfl) (fun _ _ _ h => h) (Or.inl ⟨by rfl, ?_⟩) (.inr (by exact ⟨m1, b0, b1, rc⟩)) ?_; rotate_left 1; focus (intro _; go_simp; (try go_ints); try (with_reducible rfl)); (try simp only [Act.put, List.setIfInBounds_toArray, List.set_cons_zero, List.set_cons_succ]))
  (refine keep_pure 9 (v := ?_) rfl (by kernel_rfl) (by kernel_rfl) (by kernel_rfl) (by kernel_rfl) (fun _ _ _ h => h) (Or.inl ⟨by rfl, ?_⟩) (.inr (by exact ⟨m1, b0, b1, rc⟩)) ?_; rotate_left 1; focus (intro _; go_simp; (try go_ints); try (with_reducible rfl)); (try simp only [Act.put, List.setIfInBounds_toArray, List.set_cons_zero, List.set_cons_succ]))
  (refine keep_pure 10 (v := ?_) rfl (by kernel_rfl) (by kernel_rfl) (by kernel_rfl) (by kernel_rfl) (fun _ _ _ h => h) (Or.inl ⟨by rfl, ?_⟩) (.inr (by exact ⟨m1, b0, b1, rc⟩)) ?_; rotate_left 1; focus (intro _; go_simp; (try go_ints); try (with_reducible rfl)); (try simp only [Act.put, List.setIfInBounds_toArray, List.set_cons_zero, List.set_cons_succ]))
  (refine keep_load 1 (v := ?_) rfl (by kernel_rfl) (by kernel_rfl) (by kernel_rfl) (by kernel_rfl) (by kernel_rfl) (by kernel_rfl) (fun _ _ _ h => h) (Or.inl ⟨by rfl, ?_⟩) (by exact ⟨m1, b0, b1, rc⟩) ?_; rotate_left 1; focus (intro _ hSw; (first | (obtain ⟨_, _, _, _, _⟩ := hSw) | (obtain ⟨_, _, _, _⟩ := hSw) | (obtain ⟨_, _, _⟩ := hSw) | (obtain ⟨_, _⟩ := hSw) | skip); go_simp; (try go_ints); try (with_reducible rfl)); (try simp only [Act.put, List.setIfInBounds_toArray, List.set_cons_zero, List.set_cons_succ]))
  (refine keep_load 4 (v := ?_) rfl (by kernel_rfl) (by kernel_rfl) (by kernel_rfl) (by kernel_rfl) (by kernel_rfl) (by kernel_rfl) (fun _ _ _ h => h) (Or.inl ⟨by rfl, ?_⟩) (by exact ⟨m1, b0, b1, rc⟩) ?_; rotate_left 1; focus (intro _ hSw; (first | (obtain ⟨_, _, _, _, _⟩ := hSw) | (obtain ⟨_, _, _, _⟩ := hSw) | (obtain ⟨_, _, _⟩ := hSw) | (obtain ⟨_, _⟩ := hSw) | skip); go_simp; (try go_ints); try (with_reducible rfl)); (try simp only [Act.put, List.setIfInBounds_toArray, List.set_cons_zero, List.set_cons_succ]))
  (refine keep_pure 6 (v := ?_) rfl (by kernel_rfl) (by kernel_rfl) (by kernel_rfl) (by kernel_rfl) (fun _ _ _ h => h) (Or.inl ⟨by rfl, ?_⟩) (.inr (by exact ⟨m1, b0, b1, rc⟩)) ?_; rotate_left 1; focus (intro _; go_simp; (try go_ints); try (with_reducible rfl)); (try simp only [Act.put, List.setIfInBounds_toArray, List.set_cons_zero, List.set_cons_succ]))
  (refine keep_load 7 (v := ?_) rfl (by kernel_rfl) (by kernel_rfl) (by kernel_rfl) (by kernel_rfl) (by kernel_rfl) (by kernel_rfl) (fun _ _ _ h => h) (Or.inl ⟨by rfl, ?_⟩) (by exact ⟨m1, b0, b1, rc⟩) ?_; rotate_left 1; focus (intro _ hSw; (first | (obtain ⟨_, _, _, _, _⟩ := hSw) | (obtain ⟨_, _, _, _⟩ := hSw) | (obtain ⟨_, _, _⟩ := hSw) | (obtain ⟨_, _⟩ := hSw) | skip); go_simp; (try go_ints); try (with_reducible rfl)); (try simp only [Act.put, List.setIfInBounds_toArray, List.set_cons_zero, List.set_cons_succ]))
  (refine keep_load 8 (v := ?_) rfl (by kernel_rfl) (by kernel_rfl) (by kernel_rfl) (by kernel_rfl) (by kernel_rfl) (by kernel_rfl) (fun _ _ _ h => h) (Or.inl ⟨by rfl, ?_⟩) (by exact ⟨m1, b0, b1, rc⟩) ?_; rotate_left 1; focus (intro _ hSw; (first | (obtain ⟨_, _, _, _, _⟩ := hSw) | (obtain ⟨_, _, _, _⟩ := hSw) | (obtain ⟨_, _, _⟩ := hSw) | (obtain ⟨_, _⟩ := hSw) | skip); go_simp; (try go_ints); try (with_reducible rfl)); (try simp only [Act.put, List.setIfInBounds_toArray, List.set_cons_zero, List.set_cons_succ]))
  (refine keep_one 11 (by kernel_rfl) rfl ?_)
  intro K hK
  go_simp
  refine (port_any ia (some ⟨pb0, po0, none⟩) il ic pl pc G A (B : Int) _ (HGW.out _ (HB4_0.out.trans (show Below W.heap.size wr0 wr0.drew from ⟨rfl, rfl, rfl, Nat.le_refl _, fun b _ => rfl⟩))) hA).mono ?_
  rintro e wp0 ⟨rfl, hbp0⟩
  rw [HpA.out]
  have hMp0 := (HM0.out.drew).below hbp0
  have hBp0 : Below wr0.heap.size wr0 wp0 := ⟨hbp0.os, hbp0.tape, hbp0.output, hbp0.size, hbp0.block⟩
  have bx := HS.out _ (HB4_0.out.trans (hBp0.mono HB4_0.out.size))
  obtain ⟨y0, y1, _, _, _, _⟩ := bx
  have my := hMp0.c1
  have ry := HRC0.out _ hBp0
  refine hK _ _ (fun h => (by exact ⟨my, y0, y1, ry⟩)) ?_
  clear hK K
  (try simp only [Act.put, List.setIfInBounds_toArray, List.set_cons_zero, List.set_cons_succ])
  (refine keep_one 12 (by kernel_rfl) rfl ?_)
  intro K hK
  go_simp
  refine (without_any rb0 ro0 lc0 pA (rowA G.ps A) _ (HLA0.out.below hBp0) hlA hcap0 (HRW.out A hA)).mono ?_
  rintro e wq0 ⟨⟨vn0, rfl, hon0⟩, hbq0⟩
  obtain ⟨na0, nc0, en0, _⟩ := own_slice hon0
  subst en0
  have hMq0 := hMp0.newL (i := A) (xs := delR (rowA G.ps A) pA) hul0 hbq0 (by rw [delR_len hlA]; exact hon0)
  have hBq0 := hBp0.trans (hbq0.mono hBp0.size)
  have bx := HS.out _ (HB4_0.out.trans (hBq0.mono HB4_0.out.size))
  obtain ⟨q0', q1', _, _, _, _⟩ := bx
  have mq := hMq0.c1
  have rq := HRC0.out _ hBq0
  have mh := hMq0.hdrCell HH0.out
  have mf := hMq0.hdrFree A
  have HMq0 := Lib.hid hMq0
  clear hMq0
  refine hK _ _ (fun h => (by exact ⟨mq, q0', q1', rq⟩)) ?_
  clear hK K
  (try simp only [Act.put, List.setIfInBounds_toArray, List.set_cons_zero, List.set_cons_succ])
  (refine keep_pure 13 (v := ?_) rfl (by kernel_rfl) (by kernel_rfl) (by kernel_rfl) (by kernel_rfl) (fun _ _ _ h => h) (Or.inl ⟨by rfl, ?_⟩) (.inr (by exact ⟨mq, q0', q1', rq⟩)) ?_; rotate_left 1; focus (intro _; go_simp; (try go_ints); try (with_reducible rfl)); (try simp only [Act.put, List.setIfInBounds_toArray, List.set_cons_zero, List.set_cons_succ]))
  (refine keep_one 14 (by kernel_rfl) rfl ?_)
  intro K hK
  go_simp
  refine hK _ _ (fun h => absurd h (calm_not (by kernel_rfl))) ?_
  clear hK K
  (try simp only [Act.put, List.setIfInBounds_toArray, List.set_cons_zero, List.set_cons_succ])
  (refine keep_done (by kernel_rfl) ?_)
  have hM1 := HMq0.out.stored
  have hR1 : RowsR pl (cutH G A B) (us0.set A ((.slice na0 ((rowA G.ps A).length - 1) nc0), delR (rowA G.ps A) pA)) := HR0.out.set (by simp [cutH, HpA.out]) (fun v hv _ => by simp [cutH, hv])
  obtain ⟨wr1, hw1⟩ : ∃ x, x = wq0.setCell ⟨hb, A, none⟩ (.slice na0 ((rowA G.ps A).length - 1) nc0) := ⟨_, rfl⟩
  rw [← hw1] at hM1 ⊢
  clear hw1 HMq0 mh mf mq rq q0' q1' my y0 y1 ry m1 b0 b1 rc hBq0 hBp0 hMp0 hon0 hbq0 hbp0
  generalize us0.set A _ = us1 at hM1 hR1
  have HM1 := Lib.hid hM1
  have HR1 := Lib.hid hR1
  have HB4_1 : Hid (Below W.heap.size W wr1) := Lib.hid (HB3.out.trans (hM1.fr.mono HB3.out.size))
  clear hM1 hR1
  obtain ⟨pb1, po1, hpe1, hpl1, hpc1⟩ := HCW.out _ HB4_1.out (by rw [← HPL.out]; omega)
  obtain ⟨la1, lc1, hcA1, hLA1, hcap1⟩ := hpc1 B (by rw [← HPL.out]; exact hB)
  obtain ⟨rb1, ro1, hre1, hrl1, _⟩ := hLA1.row (by omega)
  subst hre1
  clear hpc1
  have HRC1 : Hid (∀ X, Below wr1.heap.size wr1 X → X.cell? ⟨pb1, po1 + B, none⟩ = some (.slice (some ⟨rb1, ro1, none⟩) (rowA G.ps B).length lc1)) := Lib.hid (fun X h => (h.cell (p := ⟨pb1, po1 + B, none⟩) hpl1).trans hcA1)
  have HLA1 := Lib.hid hLA1
  obtain ⟨ua1, uc1, hu1, hh1⟩ := HM1.out.rowAt HR1.out hB (xs := rowA G.ps B) (by unfold cutH; rw [if_neg (Ne.symm HNE.out)])
  have HH1 := Lib.hid hh1
  have hul1 : B < us1.length := (List.getElem?_eq_some_iff.1 hu1).1
  clear hu1 hh1 hLA1 hcA1
  have bx := HS.out _ HB4_1.out
  obtain ⟨b0, b1, _, _, _, _⟩ := bx
  have m1 := HM1.out.c1
  have rc := HRC1.out _ (Below.refl _ _)
  injection hpe1 with h
  injection h with h1 h2
  subst h1 h2
  go_wp2
  refine keep_start (fun w' => w'.cell? ⟨gb, 1, none⟩ = some (.slice (some ⟨hb, 0, none⟩) pl q2) ∧ w'.cell? ⟨w.heap.size, 0, none⟩ = some (.slice ia il ic) ∧ w'.cell? ⟨w.heap.size, 1, none⟩ = some (.slice (some ⟨pb0, po0, none⟩) pl pc) ∧ w'.cell? ⟨pb0, po0 + B, none⟩ = some (.slice (some ⟨rb1, ro1, none⟩) (rowA G.ps B).length lc1)) [14] (by kernel_rfl) ?_
  (refine keep_pure 0 (v := ?_) rfl (by kernel_rfl) (by kernel_rfl) (by kernel_rfl) (by kernel_rfl) (fun _ _ _ h => h) (Or.inl ⟨by rfl, ?_⟩) (.inr (by exact ⟨m1, b0, b1, rc⟩)) ?_; rotate_left 1; focus (intro _; go_simp; (try go_ints); try (with_reducible rfl)); (try simp only [Act.put, List.setIfInBounds_toArray, List.set_cons_zero, List.set_cons_succ]))
  (refine keep_pure 2 (v := ?_) rfl (by kernel_rfl) (by kernel_rfl) (by kernel_rfl) (by kernel_rfl) (fun _ _ _ h => h) (Or.inl ⟨by rfl, ?_⟩) (.inr (by exact ⟨m1, b0, b1, rc⟩)) ?_; rotate_left 1; focus (intro _; go_simp; (try go_ints); try (with_reducible rfl)); (try simp only [Act.put, List.setIfInBounds_toArray, List.set_cons_zero, List.set_cons_succ]))
  (refine keep_pure 3 (v := ?_) rfl (by kernel_rfl) (by kernel_rfl) (by kernel_rfl) (by kernel_rfl) (fun _ _ _ h => h) (Or.inl ⟨by rfl, ?_⟩) (.inr (by exact ⟨m1, b0, b1, rc⟩)) ?_; rotate_left 1; focus (intro _; go_simp; (try go_ints); try (with_reducible rfl)); (try simp only [Act.put, List.setIfInBounds_toArray, List.set_cons_zero, List.set_cons_succ]))
  (refine keep_pure 5 (v := ?_) rfl (by kernel_rfl) (by kernel_rfl) (by kernel_rfl) (by kernel_rfl) (fun _ _ _ h => h) (Or.inl ⟨by rfl, ?_⟩) (.inr (by exact ⟨m1, b0, b1, rc⟩)) ?_; rotate_left 1; focus (intro _; go_simp; (try go_ints); try (with_reducible rfl)); (try simp only [Act.put, List.setIfInBounds_toArray, List.set_cons_zero, List.set_cons_succ]))
  (refine keep_pure 9 (v := ?_) rfl (by kernel_rfl) (by kernel_rfl) (by kernel_rfl) (by kernel_rfl) (fun _ _ _ h => h) (Or.inl ⟨by rfl, ?_⟩) (.inr (by exact ⟨m1, b0, b1, rc⟩)) ?_; rotate_left 1; focus (intro _; go_simp; (try go_ints); try (with_reducible rfl)); (try simp only [Act.put, List.setIfInBounds_toArray, List.set_cons_zero, List.set_cons_succ]))
  (refine keep_pure 10 (v := ?_) rfl (by kernel_rfl) (by kernel_rfl) (by kernel_rfl) (by kernel_rfl) (fun _ _ _ h => h) (Or.inl ⟨by rfl, ?_⟩) (.inr (by exact ⟨m1, b0, b1, rc⟩)) ?_; rotate_left 1; focus (intro _; go_simp; (try go_ints); try (with_reducible rfl)); (try simp only [Act.put, List.setIfInBounds_toArray, List.set_cons_zero, List.set_cons_succ]))
  (refine keep_load 1 (v := ?_) rfl (by kernel_rfl) (by kernel_rfl) (by kernel_rfl) (by kernel_rfl) (by kernel_rfl) (by kernel_rfl) (fun _ _ _ h => h) (Or.inl ⟨by rfl, ?_⟩) (by exact ⟨m1, b0, b1, rc⟩) ?_; rotate_left 1; focus (intro _ hSw; (first | (obtain ⟨_, _, _, _, _⟩ := hSw) | (obtain ⟨_, _, _, _⟩ := hSw) | (obtain ⟨_, _, _⟩ := hSw) | (obtain ⟨_, _⟩ := hSw) | skip); go_simp; (try go_ints); try (with_reducible rfl)); (try simp only [Act.put, List.setIfInBounds_toArray, List.set_cons_zero, List.set_cons_succ]))
  (refine keep_load 4 (v := ?_) rfl (by kernel_rfl) (by kernel_rfl) (by kernel_rfl) (by kernel_rfl) (by kernel_rfl) (by kernel_rfl) (fun _ _ _ h => h) (Or.inl ⟨by rfl, ?_⟩) (by exact ⟨m1, b0, b1, rc⟩) ?_; rotate_left 1; focus (intro _ hSw; (first | (obtain ⟨_, _, _, _, _⟩ := hSw) | (obtain ⟨_, _, _, _⟩ := hSw) | (obtain ⟨_, _, _⟩ := hSw) | (obtain ⟨_, _⟩ := hSw) | skip); go_simp; (try go_ints); try (with_reducible rfl)); (try simp only [Act.put, List.setIfInBounds_toArray, List.set_cons_zero, List.set_cons_succ]))
  (refine keep_pure 6 (v := ?_) rfl (by kernel_rfl) (by kernel_rfl) (by kernel_rfl) (by kernel_rfl) (fun _ _ _ h => h) (Or.inl ⟨by rfl, ?_⟩) (.inr (by exact ⟨m1, b0, b1, rc⟩)) ?_; rotate_left 1; focus (intro _; go_simp; (try go_ints); try (with_reducible rfl)); (try simp only [Act.put, List.setIfInBounds_toArray, List.set_cons_zero, List.set_cons_succ]))
  (refine keep_load 7 (v := ?_) rfl (by kernel_rfl) (by kernel_rfl) (by kernel_rfl) (by kernel_rfl) (by kernel_rfl) (by kernel_rfl) (fun _ _ _ h => h) (Or.inl ⟨by rfl, ?_⟩) (by exact ⟨m1, b0, b1, rc⟩) ?_; rotate_left 1; focus (intro _ hSw; (first | (obtain ⟨_, _, _, _, _⟩ := hSw) | (obtain ⟨_, _, _, _⟩ := hSw) | (obtain ⟨_, _, _⟩ := hSw) | (obtain ⟨_, _⟩ := hSw) | skip); go_simp; (try go_ints); try (with_reducible rfl)); (try simp only [Act.put, List.setIfInBounds_toArray, List.set_cons_zero, List.set_cons_succ]))
  (refine keep_load 8 (v := ?_) rfl (by kernel_rfl) (by kernel_rfl) (by kernel_rfl) (by kernel_rfl) (by kernel_rfl) (by kernel_rfl) (fun _ _ _ h => h) (Or.inl ⟨by rfl, ?_⟩) (by exact ⟨m1, b0, b1, rc⟩) ?_; rotate_left 1; focus (intro _ hSw; (first | (obtain ⟨_, _, _, _, _⟩ := hSw) | (obtain ⟨_, _, _, _⟩ := hSw) | (obtain ⟨_, _, _⟩ := hSw) | (obtain ⟨_, _⟩ := hSw) | skip); go_simp; (try go_ints); try (with_reducible rfl)); (try simp only [Act.put, List.setIfInBounds_toArray, List.set_cons_zero, List.set_cons_succ]))
  (refine keep_one 11 (by kernel_rfl) rfl ?_)
  intro K hK
  go_simp
  refine (port_any ia (some ⟨pb0, po0, none⟩) il ic pl pc G B (A : Int) _ (HGW.out _ (HB4_1.out.trans (show Below W.heap.size wr1 wr1.drew from ⟨rfl, rfl, rfl, Nat.le_refl _, fun b _ => rfl⟩))) hB).mono ?_
  rintro e wp1 ⟨rfl, hbp1⟩
  rw [HpB.out]
  have hMp1 := (HM1.out.drew).below hbp1
  have hBp1 : Below wr1.heap.size wr1 wp1 := ⟨hbp1.os, hbp1.tape, hbp1.output, hbp1.size, hbp1.block⟩
  have bx := HS.out _ (HB4_1.out.trans (hBp1.mono HB4_1.out.size))
  obtain ⟨y0, y1, _, _, _, _⟩ := bx
  have my := hMp1.c1
  have ry := HRC1.out _ hBp1
  refine hK _ _ (fun h => (by exact ⟨my, y0, y1, ry⟩)) ?_
  clear hK K
  (try simp only [Act.put, List.setIfInBounds_toArray, List.set_cons_zero, List.set_cons_succ])
  (refine keep_one 12 (by kernel_rfl) rfl ?_)
  intro K hK
  go_simp
  refine (without_any rb1 ro1 lc1 pB (rowA G.ps B) _ (HLA1.out.below hBp1) hlB hcap1 (HRW.out B hB)).mono ?_
  rintro e wq1 ⟨⟨vn1, rfl, hon1⟩, hbq1⟩
  obtain ⟨na1, nc1, en1, _⟩ := own_slice hon1
  subst en1
  have hMq1 := hMp1.newL (i := B) (xs := delR (rowA G.ps B) pB) hul1 hbq1 (by rw [delR_len hlB]; exact hon1)
  have hBq1 := hBp1.trans (hbq1.mono hBp1.size)
  have bx := HS.out _ (HB4_1.out.trans (hBq1.mono HB4_1.out.size))
  obtain ⟨q0', q1', _, _, _, _⟩ := bx
  have mq := hMq1.c1
  have rq := HRC1.out _ hBq1
  have mh := hMq1.hdrCell HH1.out
  have mf := hMq1.hdrFree B
  have HMq1 := Lib.hid hMq1
  clear hMq1
  refine hK _ _ (fun h => (by exact ⟨mq, q0', q1', rq⟩)) ?_
  clear hK K
  (try simp only [Act.put, List.setIfInBounds_toArray, List.set_cons_zero, List.set_cons_succ])
  (refine keep_pure 13 (v := ?_) rfl (by kernel_rfl) (by kernel_rfl) (by kernel_rfl) (by kernel_rfl) (fun _ _ _ h => h) (Or.inl ⟨by rfl, ?_⟩) (.inr (by exact ⟨mq, q0', q1', rq⟩)) ?_; rotate_left 1; focus (intro _; go_simp; (try go_ints); try (with_reducible rfl)); (try simp only [Act.put, List.setIfInBounds_toArray, List.set_cons_zero, List.set_cons_succ]))
  (refine keep_one 14 (by kernel_rfl) rfl ?_)
  intro K hK
  go_simp
  refine hK _ _ (fun h => absurd h (calm_not (by kernel_rfl))) ?_
  clear hK K
  (try simp only [Act.put, List.setIfInBounds_toArray, List.set_cons_zero, List.set_cons_succ])
  (refine keep_done (by kernel_rfl) ?_)
  have hM2 := HMq1.out.stored
  have hR2 : RowsR pl (cutR G A B) (us1.set B ((.slice na1 ((rowA G.ps B).length - 1) nc1), delR (rowA G.ps B) pB)) := HR1.out.set (by simp [cutR, HpB.out]) (fun v hv _ => by simp [cutR, hv])
  obtain ⟨wr2, hw2⟩ : ∃ x, x = wq1.setCell ⟨hb, B, none⟩ (.slice na1 ((rowA G.ps B).length - 1) nc1) := ⟨_, rfl⟩
  rw [← hw2] at hM2 ⊢
  clear hw2 HMq1 mh mf mq rq q0' q1' my y0 y1 ry m1 b0 b1 rc hBq1 hBp1 hMp1 hon1 hbq1 hbp1
  generalize us1.set B _ = us2 at hM2 hR2
  have HM2 := Lib.hid hM2
  have HR2 := Lib.hid hR2
  have HB4_2 : Hid (Below W.heap.size W wr2) := Lib.hid (HB3.out.trans (hM2.fr.mono HB3.out.size))
  clear hM2 hR2
  have g0 := HM2.out.c0
  have g1 := HM2.out.c1
  have bx := HS.out _ HB4_2.out
  obtain ⟨b0, b1, e0, e1, e2, e3⟩ := bx
  go_wp2
  refine bodyPost_ret (v := .tuple #[.agg #[.slice a1 il q1, .slice (some ⟨hb, 0, none⟩) pl q2], .int .i64 0]) (by rw [results_c1 rfl]; go_simp) rfl ?_
  refine ⟨⟨a1, il, q1, some ⟨hb, 0, none⟩, pl, q2, rfl, HM2.out.graphIsFar (G := cutG G A B) HIL.out (by rw [HPL.out]; simp [cutG]) (by rw [HR2.out.all, HPL.out]; rfl) (cut_fit HFG.out (by rw [← HPL.out]; exact hA) (by rw [← HPL.out]; exact hB)) ((grown_set wr2 (w.heap.size + 1) 0 _).trans (grown_set _ (w.heap.size + 1) 1 _)) (by omega)⟩, HM2.out.back (HB.out.trans (HB3.out.mono HB.out.size)) (by omega) _ _⟩
theorem cut_any (ia pa : Option Addr) (il ic pl pc : Nat) (G : Gr) (a b : Int) (w : World) (hG : GraphAt w ia il pa pl G) (hC : CapsAt w pa G.ps) :
    Calls Try.prog 30 #[.agg #[.slice ia il ic, .slice pa pl pc], .int .i64 a, .int .i64 b] w fun e w' => FamSays (cutO G a b) e w' ∧ Below w.heap.size w w' := by
  have hpl := hG.pl
  unfold cutO
  cases hv : validB G with
  | false =>
    rw [if_neg (by simp)]
    exact cutE_any ia pa il ic pl pc G a b w hG 1 (.inl ⟨hv, rfl⟩)
  | true =>
    rw [if_pos rfl, ← hpl]
    cases hn : nodesB pl a b with
    | false =>
      rw [if_neg (by simp)]
      exact cutE_any ia pa il ic pl pc G a b w hG 2 (.inr (.inl ⟨hv, hn, rfl⟩))
    | true =>
      obtain ⟨A, B, rfl, rfl, hA, hB, hne⟩ := nodesB_of hn
      simp only [Int.toNat_natCast]
      rcases Int.lt_or_le (portF (rowA G.ps A) B) 0 with hp | hp
      · rw [if_neg (fun h => by have := h.2; omega)]
        exact cutE_any ia pa il ic pl pc G A B w hG 2 (.inr (.inr ⟨A, B, rfl, rfl, hA, hv, hn, hp, rfl⟩))
      · rw [if_pos ⟨trivial, hp⟩]
        exact cut_ok ia pa il ic pl pc G A B w hG hC hv hA hB hne hn hp
end Go.Proofs.Ytkffpipcjdhbaaa
