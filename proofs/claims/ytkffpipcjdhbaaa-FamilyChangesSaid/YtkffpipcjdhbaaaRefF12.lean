/- What Connect of the specification of layer 3 answers, whatever is asked. -/
import Derived.Test.YtkffpipcjdhbaaaRefF9
namespace Go.Proofs.Ytkffpipcjdhbaaa
open Go.RowKit

set_option linter.unusedSimpArgs false in
set_option maxHeartbeats 4000000 in
set_option maxRecDepth 100000 in
theorem connectE_any (ia pa : Option Addr) (il ic pl pc : Nat) (G : Gr) (a b wt : Int) (w : World) (hG : GraphAt w ia il pa pl G) (k : Int)
    (hcase : (validB G = false ∧ k = 1) ∨ (validB G = true ∧ nodesB pl a b = false ∧ k = 2) ∨ (∃ A B : Nat, a = A ∧ b = B ∧ A < pl ∧ validB G = true ∧ nodesB pl A B = true ∧ 0 ≤ portF (rowA G.ps A) B ∧ k = 2) ∨ (∃ A B : Nat, a = A ∧ b = B ∧ A < pl ∧ validB G = true ∧ nodesB pl A B = true ∧ portF (rowA G.ps A) B < 0 ∧ inB wt 1 15 = false ∧ k = 2)) :
    Calls Try.prog 32 #[.agg #[.slice ia il ic, .slice pa pl pc], .int .i64 a, .int .i64 b, .int .i64 wt] w fun e w' => FamSays (.inl k) e w' ∧ Below w.heap.size w w' := by
  have hbel0 : Below w.heap.size w ((w.alloc (.cells #[.slice ia il ic, .slice pa pl pc] 26)).alloc (.cells #[.slice none 0 0, .slice none 0 0] 26)) := ((Below.refl _ _).alloc (Nat.le_refl _) _).alloc (by simp) _
  have HGX := Lib.hid (hG.below hbel0)
  obtain ⟨W, hW⟩ : ∃ W, W = (w.alloc (.cells #[.slice ia il ic, .slice pa pl pc] 26)).alloc (.cells #[.slice none 0 0, .slice none 0 0] 26) := ⟨_, rfl⟩
  have hWs : W.heap.size = w.heap.size + 2 := by rw [hW]; simp
  have HBX0 : Hid (W.cell? ⟨w.heap.size, 0, none⟩ = some (.slice ia il ic)) := Lib.hid (by rw [hW]; simp [cell_push0])
  have HBX1 : Hid (W.cell? ⟨w.heap.size, 1, none⟩ = some (.slice pa pl pc)) := Lib.hid (by rw [hW]; simp [cell_push0])
  have HR0 : Hid (W.cell? ⟨w.heap.size + 1, 0, none⟩ = some (.slice none 0 0)) := Lib.hid (by rw [hW]; simp [cell_push0])
  have HR1 : Hid (W.cell? ⟨w.heap.size + 1, 1, none⟩ = some (.slice none 0 0)) := Lib.hid (by rw [hW]; simp [cell_push0])
  have HF0 : Hid (W.frozen? ⟨w.heap.size + 1, 0, none⟩ = false) := Lib.hid (by rw [hW]; simp [free_push0])
  have HF1 : Hid (W.frozen? ⟨w.heap.size + 1, 1, none⟩ = false) := Lib.hid (by rw [hW]; simp [free_push0])
  rw [← hW] at hbel0
  have HB := Lib.hid hbel0
  have HFit := Lib.hid (fit_ps hG)
  have HIL := Lib.hid hG.il
  have HPL := Lib.hid hG.pl
  have HW := Lib.hid hW
  clear hbel0 hW hG
  have hpm : pl ≤ maxLen := by rw [HPL.out]; exact HGX.out.ports.size
  have HS : Hid (∀ X, Below W.heap.size W X → X.cell? ⟨w.heap.size, 0, none⟩ = some (.slice ia il ic) ∧ X.cell? ⟨w.heap.size, 1, none⟩ = some (.slice pa pl pc) ∧ X.cell? ⟨w.heap.size + 1, 0, none⟩ = some (.slice none 0 0) ∧ X.cell? ⟨w.heap.size + 1, 1, none⟩ = some (.slice none 0 0) ∧ X.frozen? ⟨w.heap.size + 1, 0, none⟩ = false ∧ X.frozen? ⟨w.heap.size + 1, 1, none⟩ = false) := Lib.hid (fun X h =>
    ⟨(h.cell (p := ⟨w.heap.size, 0, none⟩) (by simp; omega)).trans HBX0.out, (h.cell (p := ⟨w.heap.size, 1, none⟩) (by simp; omega)).trans HBX1.out, (h.cell (p := ⟨w.heap.size + 1, 0, none⟩) (by simp; omega)).trans HR0.out, (h.cell (p := ⟨w.heap.size + 1, 1, none⟩) (by simp; omega)).trans HR1.out, (h.frozen (p := ⟨w.heap.size + 1, 0, none⟩) (by simp; omega)).trans HF0.out, (h.frozen (p := ⟨w.heap.size + 1, 1, none⟩) (by simp; omega)).trans HF1.out⟩)
  rcases hcase with ⟨hv, rfl⟩ | ⟨hv, hn, rfl⟩ | ⟨A, B, rfl, rfl, hA, hv, hn, hp, rfl⟩ | ⟨A, B, rfl, rfl, hA, hv, hn, hp, hi, rfl⟩
  · skip
    go_enter Try.func32, Try.ntmps32
    go_wp2_with (first | (go_at_call 37; (with_reducible refine (refValid_any _ _ _ _ _ _ G _ HGX.out).mono ?_); rintro e w1 ⟨rfl, hb1⟩; rw [← HW.out] at hb1; have HB1 := Lib.hid hb1; have HX := Lib.hid hb1; have bx := HS.out _ hb1; obtain ⟨b0, b1, e0, e1, e2, e3⟩ := bx; clear hb1))
    refine bodyPost_ret (v := .tuple #[.agg #[.slice none 0 0, .slice none 0 0], .int .i64 1]) (by rw [results_c1 rfl]; go_simp) rfl ?_
    exact ⟨rfl, ((HB.out.trans (HX.out.mono HB.out.size)).setCell (p := ⟨w.heap.size + 1, 0, none⟩) (by simp) _).setCell (p := ⟨w.heap.size + 1, 1, none⟩) (by simp) _⟩
  · skip
    go_enter Try.func32, Try.ntmps32
    go_wp2_with (first | (go_at_call 37; (with_reducible refine (refValid_any _ _ _ _ _ _ G _ HGX.out).mono ?_); rintro e w1 ⟨rfl, hb1⟩; rw [← HW.out] at hb1; have HB1 := Lib.hid hb1; have HX := Lib.hid hb1; have bx := HS.out _ hb1; obtain ⟨b0, b1, e0, e1, e2, e3⟩ := bx; clear hb1) | (go_at_call 60; (with_reducible refine (nodes_any ia pa il ic pl pc _ _ _ hpm).mono ?_); rintro e w2 ⟨rfl, hb2⟩; clear b0 b1 e0 e1 e2 e3; have HB2 := Lib.hid (HB1.out.trans (hb2.mono HB1.out.size)); have bx := HS.out _ HB2.out; obtain ⟨b0, b1, e0, e1, e2, e3⟩ := bx; clear HX; have HX := HB2; clear hb2))
    refine bodyPost_ret (v := .tuple #[.agg #[.slice none 0 0, .slice none 0 0], .int .i64 2]) (by rw [results_c1 rfl]; go_simp) rfl ?_
    exact ⟨rfl, ((HB.out.trans (HX.out.mono HB.out.size)).setCell (p := ⟨w.heap.size + 1, 0, none⟩) (by simp) _).setCell (p := ⟨w.heap.size + 1, 1, none⟩) (by simp) _⟩
  · have hd : decide (0 ≤ portF (rowA G.ps A) B) = true := by simp [hp]
    go_enter Try.func32, Try.ntmps32
    go_wp2_with (first | (go_at_call 37; (with_reducible refine (refValid_any _ _ _ _ _ _ G _ HGX.out).mono ?_); rintro e w1 ⟨rfl, hb1⟩; rw [← HW.out] at hb1; have HB1 := Lib.hid hb1; have HX := Lib.hid hb1; have bx := HS.out _ hb1; obtain ⟨b0, b1, e0, e1, e2, e3⟩ := bx; clear hb1) | (go_at_call 60; (with_reducible refine (nodes_any ia pa il ic pl pc _ _ _ hpm).mono ?_); rintro e w2 ⟨rfl, hb2⟩; clear b0 b1 e0 e1 e2 e3; have HB2 := Lib.hid (HB1.out.trans (hb2.mono HB1.out.size)); have bx := HS.out _ HB2.out; obtain ⟨b0, b1, e0, e1, e2, e3⟩ := bx; clear HX; have HX := HB2; clear hb2) | (go_at_call 61; (with_reducible refine (port_any ia pa il ic pl pc G A (B : Int) _ ((HW.out ▸ HGX.out).below HB2.out) hA).mono ?_); rintro e w3 ⟨rfl, hb3⟩; clear b0 b1 e0 e1 e2 e3; have HB3 := Lib.hid (HB2.out.trans (hb3.mono HB2.out.size)); have bx := HS.out _ HB3.out; obtain ⟨b0, b1, e0, e1, e2, e3⟩ := bx; clear HX; have HX := HB3; clear hb3))
    refine bodyPost_ret (v := .tuple #[.agg #[.slice none 0 0, .slice none 0 0], .int .i64 2]) (by rw [results_c1 rfl]; go_simp) rfl ?_
    exact ⟨rfl, ((HB.out.trans (HX.out.mono HB.out.size)).setCell (p := ⟨w.heap.size + 1, 0, none⟩) (by simp) _).setCell (p := ⟨w.heap.size + 1, 1, none⟩) (by simp) _⟩
  · have hd : decide (0 ≤ portF (rowA G.ps A) B) = false := by simp [hp]
    go_enter Try.func32, Try.ntmps32
    go_wp2_with (first | (go_at_call 37; (with_reducible refine (refValid_any _ _ _ _ _ _ G _ HGX.out).mono ?_); rintro e w1 ⟨rfl, hb1⟩; rw [← HW.out] at hb1; have HB1 := Lib.hid hb1; have HX := Lib.hid hb1; have bx := HS.out _ hb1; obtain ⟨b0, b1, e0, e1, e2, e3⟩ := bx; clear hb1) | (go_at_call 60; (with_reducible refine (nodes_any ia pa il ic pl pc _ _ _ hpm).mono ?_); rintro e w2 ⟨rfl, hb2⟩; clear b0 b1 e0 e1 e2 e3; have HB2 := Lib.hid (HB1.out.trans (hb2.mono HB1.out.size)); have bx := HS.out _ HB2.out; obtain ⟨b0, b1, e0, e1, e2, e3⟩ := bx; clear HX; have HX := HB2; clear hb2) | (go_at_call 61; (with_reducible refine (port_any ia pa il ic pl pc G A (B : Int) _ ((HW.out ▸ HGX.out).below HB2.out) hA).mono ?_); rintro e w3 ⟨rfl, hb3⟩; clear b0 b1 e0 e1 e2 e3; have HB3 := Lib.hid (HB2.out.trans (hb3.mono HB2.out.size)); have bx := HS.out _ HB3.out; obtain ⟨b0, b1, e0, e1, e2, e3⟩ := bx; clear HX; have HX := HB3; clear hb3) | (go_at_call 43; (with_reducible refine (in_any _ _ _ _).mono ?_); rintro e wx ⟨rfl, rfl⟩))
    refine bodyPost_ret (v := .tuple #[.agg #[.slice none 0 0, .slice none 0 0], .int .i64 2]) (by rw [results_c1 rfl]; go_simp) rfl ?_
    exact ⟨rfl, ((HB.out.trans (HX.out.mono HB.out.size)).setCell (p := ⟨w.heap.size + 1, 0, none⟩) (by simp) _).setCell (p := ⟨w.heap.size + 1, 1, none⟩) (by simp) _⟩
end Go.Proofs.Ytkffpipcjdhbaaa
namespace Go.Proofs.Ytkffpipcjdhbaaa
open Go.RowKit

/-- the rows when the link has been added at A, and at both -/
def connH (G : Gr) (A B : Nat) (wt : Int) (v : Nat) : List (Int × Int) := if v = A then rowA G.ps A ++ [((B : Int), wt)] else rowA G.ps v
def connR (G : Gr) (A B : Nat) (wt : Int) (v : Nat) : List (Int × Int) := if v = B then rowA G.ps B ++ [((A : Int), wt)] else connH G A B wt v
def connG (G : Gr) (A B : Nat) (wt : Int) : Gr := ⟨G.ids, (List.range G.ps.length).map (connR G A B wt)⟩
theorem rowsR_of {us : List (Value × List (Int × Int))} {G : Gr} (h : us.map Prod.snd = G.ps) : RowsR G.ps.length (fun v => rowA G.ps v) us :=
  ⟨by rw [← h]; simp, fun v hv => by rw [h]; simp [rowA, List.getD, List.getElem?_eq_getElem hv]⟩
theorem RowsR.all {n : Nat} {R : Nat → List (Int × Int)} {us : List (Value × List (Int × Int))} (h : RowsR n R us) : us.map Prod.snd = (List.range n).map R := (h.congr (R' := upR R n) (fun v hv => by simp [upR, hv])).whole
theorem conn_fit {G : Gr} {A B : Nat} {wt : Int} (h : FitG G) (hA : A ≤ 1000) (hB : B ≤ 1000) (hA2 : A < G.ps.length) (hB2 : B < G.ps.length) (hw : I64 wt) : FitG (connG G A B wt) := by
  have hrow : ∀ v, v < G.ps.length → ∀ x ∈ rowA G.ps v, I64 x.1 ∧ I64 x.2 := fun v hv x hx => by
    refine h.2 (rowA G.ps v) ?_ x hx
    simp [rowA, List.getD, List.getElem?_eq_getElem hv]
  refine ⟨h.1, fun p hp x hx => ?_⟩
  obtain ⟨v, hv, rfl⟩ := List.mem_map.1 hp
  have hv : v < G.ps.length := by simpa using hv
  unfold connR at hx
  by_cases e : v = B
  · rw [if_pos e] at hx
    rcases List.mem_append.1 hx with hx | hx
    · exact hrow B hB2 x hx
    · obtain rfl : x = _ := by simpa using hx
      exact ⟨⟨by show _ ≤ (A : Int); omega, by show (A : Int) ≤ _; omega⟩, hw⟩
  · rw [if_neg e] at hx
    unfold connH at hx
    by_cases e2 : v = A
    · rw [if_pos e2] at hx
      rcases List.mem_append.1 hx with hx | hx
      · exact hrow A hA2 x hx
      · obtain rfl : x = _ := by simpa using hx
        exact ⟨⟨by show _ ≤ (B : Int); omega, by show (B : Int) ≤ _; omega⟩, hw⟩
    · rw [if_neg e2] at hx
      exact hrow v hv x hx
set_option linter.unusedSimpArgs false in
set_option maxHeartbeats 4000000 in
set_option maxRecDepth 100000 in
theorem connect_ok (ia pa : Option Addr) (il ic pl pc : Nat) (G : Gr) (A B : Nat) (wt : Int) (w : World) (hG : GraphAt w ia il pa pl G)
    (hv : validB G = true) (hA : A < pl) (hB : B < pl) (hne : A ≠ B) (hn : nodesB pl A B = true) (hp : portF (rowA G.ps A) B < 0) (hi : inB wt 1 15 = true) :
    Calls Try.prog 32 #[.agg #[.slice ia il ic, .slice pa pl pc], .int .i64 A, .int .i64 B, .int .i64 wt] w fun e w' => FamSays (.inr (connG G A B wt)) e w' ∧ Below w.heap.size w w' := by
  have HFG := Lib.hid (show FitG G from ⟨hG.ids.fits, fit_ps hG⟩)
  have hbel0 : Below w.heap.size w ((w.alloc (.cells #[.slice ia il ic, .slice pa pl pc] 26)).alloc (.cells #[.slice none 0 0, .slice none 0 0] 26)) := ((Below.refl _ _).alloc (Nat.le_refl _) _).alloc (by simp) _
  have HGX := Lib.hid (hG.below hbel0)
  obtain ⟨W, hW⟩ : ∃ W, W = (w.alloc (.cells #[.slice ia il ic, .slice pa pl pc] 26)).alloc (.cells #[.slice none 0 0, .slice none 0 0] 26) := ⟨_, rfl⟩
  have hWs : W.heap.size = w.heap.size + 2 := by rw [hW]; simp
  have HBX0 : Hid (W.cell? ⟨w.heap.size, 0, none⟩ = some (.slice ia il ic)) := Lib.hid (by rw [hW]; simp [cell_push0])
  have HBX1 : Hid (W.cell? ⟨w.heap.size, 1, none⟩ = some (.slice pa pl pc)) := Lib.hid (by rw [hW]; simp [cell_push0])
  have HR0 : Hid (W.cell? ⟨w.heap.size + 1, 0, none⟩ = some (.slice none 0 0)) := Lib.hid (by rw [hW]; simp [cell_push0])
  have HR1 : Hid (W.cell? ⟨w.heap.size + 1, 1, none⟩ = some (.slice none 0 0)) := Lib.hid (by rw [hW]; simp [cell_push0])
  have HF0 : Hid (W.frozen? ⟨w.heap.size + 1, 0, none⟩ = false) := Lib.hid (by rw [hW]; simp [free_push0])
  have HF1 : Hid (W.frozen? ⟨w.heap.size + 1, 1, none⟩ = false) := Lib.hid (by rw [hW]; simp [free_push0])
  rw [← hW] at hbel0
  have HB := Lib.hid hbel0
  have HFit := Lib.hid (fit_ps hG)
  have HIL := Lib.hid hG.il
  have HPL := Lib.hid hG.pl
  have HW := Lib.hid hW
  clear hbel0 hW hG
  have hpm : pl ≤ maxLen := by rw [HPL.out]; exact HGX.out.ports.size
  have HS : Hid (∀ X, Below W.heap.size W X → X.cell? ⟨w.heap.size, 0, none⟩ = some (.slice ia il ic) ∧ X.cell? ⟨w.heap.size, 1, none⟩ = some (.slice pa pl pc) ∧ X.cell? ⟨w.heap.size + 1, 0, none⟩ = some (.slice none 0 0) ∧ X.cell? ⟨w.heap.size + 1, 1, none⟩ = some (.slice none 0 0) ∧ X.frozen? ⟨w.heap.size + 1, 0, none⟩ = false ∧ X.frozen? ⟨w.heap.size + 1, 1, none⟩ = false) := Lib.hid (fun X h =>
    ⟨(h.cell (p := ⟨w.heap.size, 0, none⟩) (by simp; omega)).trans HBX0.out, (h.cell (p := ⟨w.heap.size, 1, none⟩) (by simp; omega)).trans HBX1.out, (h.cell (p := ⟨w.heap.size + 1, 0, none⟩) (by simp; omega)).trans HR0.out, (h.cell (p := ⟨w.heap.size + 1, 1, none⟩) (by simp; omega)).trans HR1.out, (h.frozen (p := ⟨w.heap.size + 1, 0, none⟩) (by simp; omega)).trans HF0.out, (h.frozen (p := ⟨w.heap.size + 1, 1, none⟩) (by simp; omega)).trans HF1.out⟩)
  have hV := validB_iff.1 hv
  have hpl24 : pl ≤ 24 := by have := hV.le; have := HPL.out; omega
  have hpl : pl ≤ 1000 := by omega
  have hil : il ≤ 1000 := by have := hV.le; have := hV.ids; have := HIL.out; omega
  have hrow : ∀ v, v < pl → (rowA G.ps v).length ≤ 1000 := fun v hv => by
    have h1 := HPL.out
    have h2 := (hV.links v (by omega)).len (by omega)
    have := hV.le
    omega
  have hrA := hrow A hA
  have hrB := hrow B hB
  have HRW := Lib.hid hrow
  have hd : decide (0 ≤ portF (rowA G.ps A) B) = false := by simp [hp]
  have hwt : 1 ≤ wt ∧ wt ≤ 15 := by simpa [inB] using hi
  have HNE := Lib.hid hne
  clear hV hrow hne
  go_enter Try.func32, Try.ntmps32
  go_wp2_with (first | (go_at_call 37; (with_reducible refine (refValid_any _ _ _ _ _ _ G _ HGX.out).mono ?_); rintro e w1 ⟨rfl, hb1⟩; rw [← HW.out] at hb1; have HB1 := Lib.hid hb1; have HX := Lib.hid hb1; have bx := HS.out _ hb1; obtain ⟨b0, b1, e0, e1, e2, e3⟩ := bx; clear hb1) | (go_at_call 60; (with_reducible refine (nodes_any ia pa il ic pl pc _ _ _ hpm).mono ?_); rintro e w2 ⟨rfl, hb2⟩; clear b0 b1 e0 e1 e2 e3; have HB2 := Lib.hid (HB1.out.trans (hb2.mono HB1.out.size)); have bx := HS.out _ HB2.out; obtain ⟨b0, b1, e0, e1, e2, e3⟩ := bx; clear HX; have HX := HB2; clear hb2) | (go_at_call 61; (with_reducible refine (port_any ia pa il ic pl pc G A (B : Int) _ ((HW.out ▸ HGX.out).below HB2.out) hA).mono ?_); rintro e w3 ⟨rfl, hb3⟩; clear b0 b1 e0 e1 e2 e3; have HB3 := Lib.hid (HB2.out.trans (hb3.mono HB2.out.size)); have bx := HS.out _ HB3.out; obtain ⟨b0, b1, e0, e1, e2, e3⟩ := bx; clear HX; have HX := HB3; clear hb3) | (go_at_call 43; (with_reducible refine (in_any _ _ _ _).mono ?_); rintro e wx ⟨rfl, rfl⟩) | (go_at_call 55; (with_reducible refine (copy_any ia pa il ic pl pc G _ ((HW.out ▸ HGX.out).below HB3.out) hil hpl HRW.out).mono ?_); rintro e w4 ⟨⟨a1, q1, a2, q2, us0, rfl, hus, hA2⟩, hb4⟩))

  clear b0 b1 e0 e1 e2 e3
  obtain ⟨a0, _, ea, _, p2⟩ := own_slice (hA2.own (hdrR (.slice a2 pl q2) (us0.map Prod.fst)) (by simp))
  have hul : us0.length = pl := by rw [HPL.out, ← hus]; simp
  obtain ⟨hb, rfl, _⟩ : ∃ g, a2 = some ⟨g, 0, none⟩ ∧ g < w4.heap.size := by
    injection ea with ea
    rw [ea]
    exact p2 (by simp [hdrR, hul]; omega)
  clear ea p2 hul
  have hM0 := Made.box (z1 := .slice a1 il q1) (z2 := .slice (some ⟨hb, 0, none⟩) pl q2) (t := 26) hA2 hb4
  have HR0 : Hid (RowsR pl (fun v => rowA G.ps v) us0) := Lib.hid (by rw [HPL.out]; exact rowsR_of hus)
  have hs3 := HB3.out.size
  have hs4 := hb4.size
  obtain ⟨wr0, hwr0⟩ : ∃ x, x = w4.alloc (.cells #[.slice a1 il q1, .slice (some ⟨hb, 0, none⟩) pl q2] 26) := ⟨_, rfl⟩
  rw [← hwr0] at hM0 ⊢
  clear hwr0 hA2 hb4 hus
  obtain ⟨gb, hgb⟩ : ∃ gb, gb = w4.heap.size := ⟨_, rfl⟩
  rw [← hgb] at hM0 hs4 ⊢
  clear hgb
  have HM0 := Lib.hid hM0
  clear hM0
  obtain ⟨ua0, uc0, hu0, hh0⟩ := HM0.out.rowAt HR0.out hA (xs := rowA G.ps A) rfl
  have c1_0 := HM0.out.c1
  have ck0 := HM0.out.hdrCell hh0
  have HU0 := Lib.hid hu0
  have HH0 := Lib.hid hh0
  clear hu0 hh0
  refine keep_start (fun w' => w'.cell? ⟨gb, 1, none⟩ = some (.slice (some ⟨hb, 0, none⟩) pl q2) ∧ w'.cell? ⟨hb, A, none⟩ = some (.slice ua0 ((rowA G.ps A).length) uc0)) [14] (by kernel_rfl) ?_
  (refine keep_pure 0 (v := ?_) rfl (by kernel_rfl) (by kernel_rfl) (by kernel_rfl) (by kernel_rfl) (fun _ _ _ h => h) (Or.inl ⟨by rfl, ?_⟩) (.inr (by exact ⟨HM0.out.c1, HM0.out.hdrCell HH0.out⟩)) ?_; rotate_left 1; focus (intro _; go_simp; (try go_ints); try (with_reducible rfl)); (try simp only [Act.put, List.setIfInBounds_toArray, List.set_cons_zero, List.set_cons_succ]))
  (refine keep_pure 2 (v := ?_) rfl (by kernel_rfl) (by kernel_rfl) (by kernel_rfl) (by kernel_rfl) (fun _ _ _ h => h) (Or.inl ⟨by rfl, ?_⟩) (.inr (by exact ⟨HM0.out.c1, HM0.out.hdrCell HH0.out⟩)) ?_; rotate_left 1; focus (intro _; go_simp; (try go_ints); try (with_reducible rfl)); (try simp only [Act.put, List.setIfInBounds_toArray, List.set_cons_zero, List.set_cons_succ]))
  (refine keep_pure 3 (v := ?_) rfl (by kernel_rfl) (by kernel_rfl) (by kernel_rfl) (by kernel_rfl) (fun _ _ _ h => h) (Or.inl ⟨by rfl, ?_⟩) (.inr (by exact ⟨HM0.out.c1, HM0.out.hdrCell HH0.out⟩)) ?_; rotate_left 1; focus (intro _; go_simp; (try go_ints); try (with_reducible rfl)); (try simp only [Act.put, List.setIfInBounds_toArray, List.set_cons_zero, List.set_cons_succ]))
  (refine keep_pure 5 (v := ?_) rfl (by kernel_rfl) (by kernel_rfl) (by kernel_rfl) (by kernel_rfl) (fun _ _ _ h => h) (Or.inl ⟨by rfl, ?_⟩) (.inr (by exact ⟨HM0.out.c1, HM0.out.hdrCell HH0.out⟩)) ?_; rotate_left 1; focus (intro _; go_simp; (try go_ints); try (with_reducible rfl)); (try simp only [Act.put, List.setIfInBounds_toArray, List.set_cons_zero, List.set_cons_succ]))
  (refine keep_pure 8 (v := ?_) rfl (by kernel_rfl) (by kernel_rfl) (by kernel_rfl) (by kernel_rfl) (fun _ _ _ h => h) (Or.inl ⟨by rfl, ?_⟩) (.inr (by exact ⟨HM0.out.c1, HM0.out.hdrCell HH0.out⟩)) ?_; rotate_left 1; focus (intro _; go_simp; (try go_ints); try (with_reducible rfl)); (try simp only [Act.put, List.setIfInBounds_toArray, List.set_cons_zero, List.set_cons_succ]))
  (refine keep_pure 9 (v := ?_) rfl (by kernel_rfl) (by kernel_rfl) (by kernel_rfl) (by kernel_rfl) (fun _ _ _ h => h) (Or.inl ⟨by rfl, ?_⟩) (.inr (by exact ⟨HM0.out.c1, HM0.out.hdrCell HH0.out⟩)) ?_; rotate_left 1; focus (intro _; go_simp; (try go_ints); try (with_reducible rfl)); (try simp only [Act.put, List.setIfInBounds_toArray, List.set_cons_zero, List.set_cons_succ]))
  (refine keep_pure 10 (v := ?_) rfl (by kernel_rfl) (by kernel_rfl) (by kernel_rfl) (by kernel_rfl) (fun _ _ _ h => h) (Or.inl ⟨by rfl, ?_⟩) (.inr (by exact ⟨HM0.out.c1, HM0.out.hdrCell HH0.out⟩)) ?_; rotate_left 1; focus (intro _; go_simp; (try go_ints); try (with_reducible rfl)); (try simp only [Act.put, List.setIfInBounds_toArray, List.set_cons_zero, List.set_cons_succ]))
  (refine keep_load 1 (v := ?_) rfl (by kernel_rfl) (by kernel_rfl) (by kernel_rfl) (by kernel_rfl) (by kernel_rfl) (by kernel_rfl) (fun _ _ _ h => h) (Or.inl ⟨by rfl, ?_⟩) (by exact ⟨HM0.out.c1, HM0.out.hdrCell HH0.out⟩) ?_; rotate_left 1; focus (intro _ hSw; (first | (obtain ⟨_, _, _, _, _⟩ := hSw) | (obtain ⟨_, _, _, _⟩ := hSw) | (obtain ⟨_, _, _⟩ := hSw) | (obtain ⟨_, _⟩ := hSw) | skip); go_simp; (try go_ints); try (with_reducible rfl)); (try simp only [Act.put, List.setIfInBounds_toArray, List.set_cons_zero, List.set_cons_succ]))
  (refine keep_load 4 (v := ?_) rfl (by kernel_rfl) (by kernel_rfl) (by kernel_rfl) (by kernel_rfl) (by kernel_rfl) (by kernel_rfl) (fun _ _ _ h => h) (Or.inl ⟨by rfl, ?_⟩) (by exact ⟨HM0.out.c1, HM0.out.hdrCell HH0.out⟩) ?_; rotate_left 1; focus (intro _ hSw; (first | (obtain ⟨_, _, _, _, _⟩ := hSw) | (obtain ⟨_, _, _, _⟩ := hSw) | (obtain ⟨_, _, _⟩ := hSw) | (obtain ⟨_, _⟩ := hSw) | skip); go_simp; (try go_ints); try (with_reducible rfl)); (try simp only [Act.put, List.setIfInBounds_toArray, List.set_cons_zero, List.set_cons_succ]))
  (refine keep_pure 6 (v := ?_) rfl (by kernel_rfl) (by kernel_rfl) (by kernel_rfl) (by kernel_rfl) (fun _ _ _ h => h) (Or.inl ⟨by rfl, ?_⟩) (.inr (by exact ⟨HM0.out.c1, HM0.out.hdrCell HH0.out⟩)) ?_; rotate_left 1; focus (intro _; go_simp; (try go_ints); try (with_reducible rfl)); (try simp only [Act.put, List.setIfInBounds_toArray, List.set_cons_zero, List.set_cons_succ]))
  (refine keep_load 7 (v := ?_) rfl (by kernel_rfl) (by kernel_rfl) (by kernel_rfl) (by kernel_rfl) (by kernel_rfl) (by kernel_rfl) (fun _ _ _ h => h) (Or.inl ⟨by rfl, ?_⟩) (by exact ⟨HM0.out.c1, HM0.out.hdrCell HH0.out⟩) ?_; rotate_left 1; focus (intro _ hSw; (first | (obtain ⟨_, _, _, _, _⟩ := hSw) | (obtain ⟨_, _, _, _⟩ := hSw) | (obtain ⟨_, _, _⟩ := hSw) | (obtain ⟨_, _⟩ := hSw) | skip); go_simp; (try go_ints); try (with_reducible rfl)); (try simp only [Act.put, List.setIfInBounds_toArray, List.set_cons_zero, List.set_cons_succ]))
  (refine keep_one 11 (by kernel_rfl) rfl ?_)
  intro K hK
  go_simp
  refine hK _ _ (fun h => (by exact ⟨(HM0.out.alloc _).drew.c1, (HM0.out.alloc _).drew.hdrCell HH0.out⟩)) ?_
  clear hK K
  (try simp only [Act.put, List.setIfInBounds_toArray, List.set_cons_zero, List.set_cons_succ])
  (refine keep_one 12 (by kernel_rfl) rfl ?_)
  intro K hK
  (refine step_link rfl (.tmp 42) (.tmp 46) 48 rfl Try.underlying48 wr0.heap.size ((B : Int), wt) A _ _ (by rfl) (by rfl) ((HM0.out.alloc (.cells #[.int .i64 ((B : Int)), .int .i64 wt] 50)).drew) HU0.out (by simp [cell_push0]) (by simp [cell_push0]) (by simp; omega) ?_)
  intro g1 cap1 wn1 hMn
  have z0 := hMn.c1
  have z1 := hMn.hdrCell HH0.out
  have z2 := hMn.hdrFree A
  have HN1 := Lib.hid hMn
  clear hMn
  refine hK _ _ (fun h => (by exact ⟨z0, z1⟩)) ?_
  clear hK K
  (try simp only [Act.put, List.setIfInBounds_toArray, List.set_cons_zero, List.set_cons_succ])
  (refine keep_pure 13 (v := ?_) rfl (by kernel_rfl) (by kernel_rfl) (by kernel_rfl) (by kernel_rfl) (fun _ _ _ h => h) (Or.inl ⟨by rfl, ?_⟩) (.inr (by exact ⟨z0, z1⟩)) ?_; rotate_left 1; focus (intro _; go_simp; (try go_ints); try (with_reducible rfl)); (try simp only [Act.put, List.setIfInBounds_toArray, List.set_cons_zero, List.set_cons_succ]))
  (refine keep_one 14 (by kernel_rfl) rfl ?_)
  intro K hK
  go_simp
  refine hK _ _ (fun h => absurd h (calm_not (by kernel_rfl))) ?_
  clear hK K
  (try simp only [Act.put, List.setIfInBounds_toArray, List.set_cons_zero, List.set_cons_succ])
  (refine keep_done (by kernel_rfl) ?_)
  have hM1 := HN1.out.stored
  have hR1 : RowsR pl (connH G A B wt) (us0.set A ((.slice (some ⟨g1, 0, none⟩) ((rowA G.ps A).length + 1) cap1), rowA G.ps A ++ [((B : Int), wt)])) := HR0.out.set (by simp [connH]) (fun v hv _ => by simp [connH, hv])
  try simp only [List.nil_append, List.cons_append, List.length_cons, List.length_nil, Nat.zero_add, Nat.reduceAdd] at hM1 hR1
  obtain ⟨wr1, hw1⟩ : ∃ x, x = wn1.setCell ⟨hb, A, none⟩ (.slice (some ⟨g1, 0, none⟩) ((rowA G.ps A).length + 1) cap1) := ⟨_, rfl⟩
  rw [← hw1] at hM1 ⊢
  clear hw1 z0 z1 z2
  generalize us0.set A _ = us1 at hM1 hR1
  have HM1 := Lib.hid hM1
  have HR1 := Lib.hid hR1
  clear hM1 hR1
  obtain ⟨ua1, uc1, hu1, hh1⟩ := HM1.out.rowAt HR1.out hB (xs := rowA G.ps B) (by unfold connH; rw [if_neg (Ne.symm HNE.out)])
  have c1_1 := HM1.out.c1
  have ck1 := HM1.out.hdrCell hh1
  have HU1 := Lib.hid hu1
  have HH1 := Lib.hid hh1
  clear hu1 hh1
  go_wp2
  refine keep_start (fun w' => w'.cell? ⟨gb, 1, none⟩ = some (.slice (some ⟨hb, 0, none⟩) pl q2) ∧ w'.cell? ⟨hb, B, none⟩ = some (.slice ua1 ((rowA G.ps B).length) uc1)) [14] (by kernel_rfl) ?_
  (refine keep_pure 0 (v := ?_) rfl (by kernel_rfl) (by kernel_rfl) (by kernel_rfl) (by kernel_rfl) (fun _ _ _ h => h) (Or.inl ⟨by rfl, ?_⟩) (.inr (by exact ⟨HM1.out.c1, HM1.out.hdrCell HH1.out⟩)) ?_; rotate_left 1; focus (intro _; go_simp; (try go_ints); try (with_reducible rfl)); (try simp only [Act.put, List.setIfInBounds_toArray, List.set_cons_zero, List.set_cons_succ]))
  (refine keep_pure 2 (v := ?_) rfl (by kernel_rfl) (by kernel_rfl) (by kernel_rfl) (by kernel_rfl) (fun _ _ _ h => h) (Or.inl ⟨by rfl, ?_⟩) (.inr (by exact ⟨HM1.out.c1, HM1.out.hdrCell HH1.out⟩)) ?_; rotate_left 1; focus (intro _; go_simp; (try go_ints); try (with_reducible rfl)); (try simp only [Act.put, List.setIfInBounds_toArray, List.set_cons_zero, List.set_cons_succ]))
  (refine keep_pure 3 (v := ?_) rfl (by kernel_rfl) (by kernel_rfl) (by kernel_rfl) (by kernel_rfl) (fun _ _ _ h => h) (Or.inl ⟨by rfl, ?_⟩) (.inr (by exact ⟨HM1.out.c1, HM1.out.hdrCell HH1.out⟩)) ?_; rotate_left 1; focus (intro _; go_simp; (try go_ints); try (with_reducible rfl)); (try simp only [Act.put, List.setIfInBounds_toArray, List.set_cons_zero, List.set_cons_succ]))
  (refine keep_pure 5 (v := ?_) rfl (by kernel_rfl) (by kernel_rfl) (by kernel_rfl) (by kernel_rfl) (fun _ _ _ h => h) (Or.inl ⟨by rfl, ?_⟩) (.inr (by exact ⟨HM1.out.c1, HM1.out.hdrCell HH1.out⟩)) ?_; rotate_left 1; focus (intro _; go_simp; (try go_ints); try (with_reducible rfl)); (try simp only [Act.put, List.setIfInBounds_toArray, List.set_cons_zero, List.set_cons_succ]))
  (refine keep_pure 8 (v := ?_) rfl (by kernel_rfl) (by kernel_rfl) (by kernel_rfl) (by kernel_rfl) (fun _ _ _ h => h) (Or.inl ⟨by rfl, ?_⟩) (.inr (by exact ⟨HM1.out.c1, HM1.out.hdrCell HH1.out⟩)) ?_; rotate_left 1; focus (intro _; go_simp; (try go_ints); try (with_reducible rfl)); (try simp only [Act.put, List.setIfInBounds_toArray, List.set_cons_zero, List.set_cons_succ]))
  (refine keep_pure 9 (v := ?_) rfl (by kernel_rfl) (by kernel_rfl) (by kernel_rfl) (by kernel_rfl) (fun _ _ _ h => h) (Or.inl ⟨by rfl, ?_⟩) (.inr (by exact ⟨HM1.out.c1, HM1.out.hdrCell HH1.out⟩)) ?_; rotate_left 1; focus (intro _; go_simp; (try go_ints); try (with_reducible rfl)); (try simp only [Act.put, List.setIfInBounds_toArray, List.set_cons_zero, List.set_cons_succ]))
  (refine keep_pure 10 (v := ?_) rfl (by kernel_rfl) (by kernel_rfl) (by kernel_rfl) (by kernel_rfl) (fun _ _ _ h => h) (Or.inl ⟨by rfl, ?_⟩) (.inr (by exact ⟨HM1.out.c1, HM1.out.hdrCell HH1.out⟩)) ?_; rotate_left 1; focus (intro _; go_simp; (try go_ints); try (with_reducible rfl)); (try simp only [Act.put, List.setIfInBounds_toArray, List.set_cons_zero, List.set_cons_succ]))
  (refine keep_load 1 (v := ?_) rfl (by kernel_rfl) (by kernel_rfl) (by kernel_rfl) (by kernel_rfl) (by kernel_rfl) (by kernel_rfl) (fun _ _ _ h => h) (Or.inl ⟨by rfl, ?_⟩) (by exact ⟨HM1.out.c1, HM1.out.hdrCell HH1.out⟩) ?_; rotate_left 1; focus (intro _ hSw; (first | (obtain ⟨_, _, _, _, _⟩ := hSw) | (obtain ⟨_, _, _, _⟩ := hSw) | (obtain ⟨_, _, _⟩ := hSw) | (obtain ⟨_, _⟩ := hSw) | skip); go_simp; (try go_ints); try (with_reducible rfl)); (try simp only [Act.put, List.setIfInBounds_toArray, List.set_cons_zero, List.set_cons_succ]))
  (refine keep_load 4 (v := ?_) rfl (by kernel_rfl) (by kernel_rfl) (by kernel_rfl) (by kernel_rfl) (by kernel_rfl) (by kernel_rfl) (fun _ _ _ h => h) (Or.inl ⟨by rfl, ?_⟩) (by exact ⟨HM1.out.c1, HM1.out.hdrCell HH1.out⟩) ?_; rotate_left 1; focus (intro _ hSw; (first | (obtain ⟨_, _, _, _, _⟩ := hSw) | (obtain ⟨_, _, _, _⟩ := hSw) | (obtain ⟨_, _, _⟩ := hSw) | (obtain ⟨_, _⟩ := hSw) | skip); go_simp; (try go_ints); try (with_reducible rfl)); (try simp only [Act.put, List.setIfInBounds_toArray, List.set_cons_zero, List.set_cons_succ]))
  (refine keep_pure 6 (v := ?_) rfl (by kernel_rfl) (by kernel_rfl) (by kernel_rfl) (by kernel_rfl) (fun _ _ _ h => h) (Or.inl ⟨by rfl, ?_⟩) (.inr (by exact ⟨HM1.out.c1, HM1.out.hdrCell HH1.out⟩)) ?_; rotate_left 1; focus (intro _; go_simp; (try go_ints); try (with_reducible rfl)); (try simp only [Act.put, List.setIfInBounds_toArray, List.set_cons_zero, List.set_cons_succ]))
  (refine keep_load 7 (v := ?_) rfl (by kernel_rfl) (by kernel_rfl) (by kernel_rfl) (by kernel_rfl) (by kernel_rfl) (by kernel_rfl) (fun _ _ _ h => h) (Or.inl ⟨by rfl, ?_⟩) (by exact ⟨HM1.out.c1, HM1.out.hdrCell HH1.out⟩) ?_; rotate_left 1; focus (intro _ hSw; (first | (obtain ⟨_, _, _, _, _⟩ := hSw) | (obtain ⟨_, _, _, _⟩ := hSw) | (obtain ⟨_, _, _⟩ := hSw) | (obtain ⟨_, _⟩ := hSw) | skip); go_simp; (try go_ints); try (with_reducible rfl)); (try simp only [Act.put, List.setIfInBounds_toArray, List.set_cons_zero, List.set_cons_succ]))
  (refine keep_one 11 (by kernel_rfl) rfl ?_)
  intro K hK
  go_simp
  refine hK _ _ (fun h => (by exact ⟨(HM1.out.alloc _).drew.c1, (HM1.out.alloc _).drew.hdrCell HH1.out⟩)) ?_
  clear hK K
  (try simp only [Act.put, List.setIfInBounds_toArray, List.set_cons_zero, List.set_cons_succ])
  (refine keep_one 12 (by kernel_rfl) rfl ?_)
  intro K hK
  (refine step_link rfl (.tmp 56) (.tmp 60) 48 rfl Try.underlying48 wr1.heap.size ((A : Int), wt) B _ _ (by rfl) (by rfl) ((HM1.out.alloc (.cells #[.int .i64 ((A : Int)), .int .i64 wt] 50)).drew) HU1.out (by simp [cell_push0]) (by simp [cell_push0]) (by simp; omega) ?_)
  intro g2 cap2 wn2 hMn
  have z0 := hMn.c1
  have z1 := hMn.hdrCell HH1.out
  have z2 := hMn.hdrFree B
  have HN2 := Lib.hid hMn
  clear hMn
  refine hK _ _ (fun h => (by exact ⟨z0, z1⟩)) ?_
  clear hK K
  (try simp only [Act.put, List.setIfInBounds_toArray, List.set_cons_zero, List.set_cons_succ])
  (refine keep_pure 13 (v := ?_) rfl (by kernel_rfl) (by kernel_rfl) (by kernel_rfl) (by kernel_rfl) (fun _ _ _ h => h) (Or.inl ⟨by rfl, ?_⟩) (.inr (by exact ⟨z0, z1⟩)) ?_; rotate_left 1; focus (intro _; go_simp; (try go_ints); try (with_reducible rfl)); (try simp only [Act.put, List.setIfInBounds_toArray, List.set_cons_zero, List.set_cons_succ]))
  (refine keep_one 14 (by kernel_rfl) rfl ?_)
  intro K hK
  go_simp
  refine hK _ _ (fun h => absurd h (calm_not (by kernel_rfl))) ?_
  clear hK K
  (try simp only [Act.put, List.setIfInBounds_toArray, List.set_cons_zero, List.set_cons_succ])
  (refine keep_done (by kernel_rfl) ?_)
  have hM2 := HN2.out.stored
  have hR2 : RowsR pl (connR G A B wt) (us1.set B ((.slice (some ⟨g2, 0, none⟩) ((rowA G.ps B).length + 1) cap2), rowA G.ps B ++ [((A : Int), wt)])) := HR1.out.set (by simp [connR]) (fun v hv _ => by simp [connR, hv])
  try simp only [List.nil_append, List.cons_append, List.length_cons, List.length_nil, Nat.zero_add, Nat.reduceAdd] at hM2 hR2
  obtain ⟨wr2, hw2⟩ : ∃ x, x = wn2.setCell ⟨hb, B, none⟩ (.slice (some ⟨g2, 0, none⟩) ((rowA G.ps B).length + 1) cap2) := ⟨_, rfl⟩
  rw [← hw2] at hM2 ⊢
  clear hw2 z0 z1 z2
  generalize us1.set B _ = us2 at hM2 hR2
  have HM2 := Lib.hid hM2
  have HR2 := Lib.hid hR2
  clear hM2 hR2
  have g0 := HM2.out.c0
  have g1 := HM2.out.c1
  have bx := HS.out _ (HB3.out.trans (HM2.out.fr.mono HB3.out.size))
  obtain ⟨b0, b1, e0, e1, e2, e3⟩ := bx
  go_wp2
  refine bodyPost_ret (v := .tuple #[.agg #[.slice a1 il q1, .slice (some ⟨hb, 0, none⟩) pl q2], .int .i64 0]) (by rw [results_c1 rfl]; go_simp) rfl ?_
  refine ⟨⟨a1, il, q1, some ⟨hb, 0, none⟩, pl, q2, rfl, HM2.out.graphIsFar (G := connG G A B wt) HIL.out (by rw [HPL.out]; simp [connG]) (by rw [HR2.out.all, HPL.out]; rfl) (conn_fit HFG.out (by omega) (by omega) (by rw [← HPL.out]; exact hA) (by rw [← HPL.out]; exact hB) ⟨by omega, by omega⟩) ((grown_set wr2 (w.heap.size + 1) 0 _).trans (grown_set _ (w.heap.size + 1) 1 _)) (by omega)⟩, HM2.out.back (HB.out.trans (HB3.out.mono HB.out.size)) (by omega) _ _⟩
end Go.Proofs.Ytkffpipcjdhbaaa
namespace Go.Proofs.Ytkffpipcjdhbaaa
open Go.RowKit

noncomputable def connO (G : Gr) (a b wt : Int) : Int ⊕ Gr :=
  if validB G = true then (if nodesB G.ps.length a b = true ∧ portF (rowA G.ps a.toNat) b < 0 ∧ inB wt 1 15 = true then .inr (connG G a.toNat b.toNat wt) else .inl 2) else .inl 1
theorem nodesB_of {n : Nat} {a b : Int} (h : nodesB n a b = true) : ∃ A B : Nat, a = A ∧ b = B ∧ A < n ∧ B < n ∧ A ≠ B := by
  unfold nodesB inB at h
  simp only [Bool.and_eq_true, decide_eq_true_eq, bne_iff_ne, ne_eq] at h
  exact ⟨a.toNat, b.toNat, by omega, by omega, by omega, by omega, by omega⟩
theorem connect_any (ia pa : Option Addr) (il ic pl pc : Nat) (G : Gr) (a b wt : Int) (w : World) (hG : GraphAt w ia il pa pl G) :
    Calls Try.prog 32 #[.agg #[.slice ia il ic, .slice pa pl pc], .int .i64 a, .int .i64 b, .int .i64 wt] w fun e w' => FamSays (connO G a b wt) e w' ∧ Below w.heap.size w w' := by
  have hpl := hG.pl
  unfold connO
  cases hv : validB G with
  | false =>
    rw [if_neg (by simp)]
    exact connectE_any ia pa il ic pl pc G a b wt w hG 1 (.inl ⟨hv, rfl⟩)
  | true =>
    rw [if_pos rfl, ← hpl]
    cases hn : nodesB pl a b with
    | false =>
      rw [if_neg (by simp)]
      exact connectE_any ia pa il ic pl pc G a b wt w hG 2 (.inr (.inl ⟨hv, hn, rfl⟩))
    | true =>
      obtain ⟨A, B, rfl, rfl, hA, hB, hne⟩ := nodesB_of hn
      simp only [Int.toNat_natCast]
      rcases Int.lt_or_le (portF (rowA G.ps A) B) 0 with hp | hp
      · cases hi : inB wt 1 15 with
        | false =>
          rw [if_neg (by simp)]
          exact connectE_any ia pa il ic pl pc G A B wt w hG 2 (.inr (.inr (.inr ⟨A, B, rfl, rfl, hA, hv, hn, hp, hi, rfl⟩)))
        | true =>
          rw [if_pos (by simp [hp])]
          exact connect_ok ia pa il ic pl pc G A B wt w hG hv hA hB hne hn hp hi
      · rw [if_neg (fun h => by have := h.2.1; omega)]
        exact connectE_any ia pa il ic pl pc G A B wt w hG 2 (.inr (.inr (.inl ⟨A, B, rfl, rfl, hA, hv, hn, hp, rfl⟩)))
end Go.Proofs.Ytkffpipcjdhbaaa
