/- What Connect of package family answers. -/
import Derived.Test.YtkffpipcjdhbaaaFamConn0
import Derived.Test.YtkffpipcjdhbaaaFam7
namespace Go.Proofs.Ytkffpipcjdhbaaa
open Go.RowKit

set_option linter.unusedSimpArgs false in
set_option maxHeartbeats 4000000 in
set_option maxRecDepth 100000 in
theorem connP_ok (ia pa : Option Addr) (il ic pl pc : Nat) (G : Gr) (A B : Nat) (wt : Int) (w : World) (hG : GraphAt w ia il pa pl G) (hv : validB G = true) (hA : A < pl) (hB : B < pl) (hne : A ≠ B) (hlk : decide (portF (rowA G.ps A) B < 0) = true) (hw1 : 1 ≤ wt) (hw2 : wt ≤ 15) :
    Calls Try.prog 31 #[.agg #[.slice ia il ic, .slice pa pl pc], .int .i64 A, .int .i64 B, .int .i64 wt] w fun e w' => FamOwn w.heap.size (.inr (connG G A B wt)) e w' ∧ Below w.heap.size w w' := by
  have HFG := Lib.hid (show FitG G from ⟨hG.ids.fits, fit_ps hG⟩)
  have HIL := Lib.hid hG.il
  have HGX := Lib.hid (hG.below (((Below.refl _ _).alloc (Nat.le_refl _) (.cells #[.slice ia il ic, .slice pa pl pc] 26)).alloc (by simp) (.cells #[.slice none 0 0, .slice none 0 0] 26)))
  have HG0 := Lib.hid hG
  have HPG := Lib.hid hG.pl
  have hpm : pl ≤ maxLen := by rw [HPG.out]; exact hG.ports.size
  have HI0 := Lib.hid hG.ids
  have HPo := Lib.hid hG.ports
  clear hG
  have HV := Lib.hid (validB_iff.1 hv)
  have hin : inP pl A B = true := by unfold inP; rw [inB_mk ⟨by omega, by omega⟩, inB_mk ⟨by omega, by omega⟩]; rfl
  have hab : ((A : Int) == B) = false := by simp; omega
  have hpl24 : pl ≤ 24 := by have := HV.out.le; have := HPG.out; omega
  have hpl : pl ≤ 1000 := by omega
  have hil : il ≤ 1000 := by have := HV.out.le; have := HV.out.ids; have := HIL.out; omega
  have HRw : Hid (∀ v, v < pl → (rowA G.ps v).length ≤ 1000) := Lib.hid (fun v hv => rows_short HV.out v (by rw [← HPG.out]; exact hv))
  have hrA := HRw.out A hA
  have hrB := HRw.out B hB
  have hw3 : ¬ wt < 1 := by omega
  have hw4 : ¬ 15 < wt := by omega
  go_enter Try.func31, Try.ntmps31
  go_wp2_with (first | (go_at_call 51; go_must (refine (valid_any _ _ _ _ _ _ G _ HGX.out).mono ?_; rintro e w1 ⟨rfl, hb1⟩; rw [hv]); have hbx : Below (w.heap.size + 2) ((w.alloc (.cells #[.slice ia il ic, .slice pa pl pc] 26)).alloc (.cells #[.slice none 0 0, .slice none 0 0] 26)) w1 := hb1.mono (by simp); have r0 := boxedB hbx 0; have r1 := boxedB hbx 1; have q0 := free_boxB hbx 0; have q1 := free_boxB hbx 1; obtain ⟨wp, hwp⟩ : ∃ x, x = w1.alloc (.cells #[.int .i64 A, .int .i64 B] 54) := ⟨_, rfl⟩; have hs1 : w.heap.size + 2 ≤ w1.heap.size := (by simpa using hbx.size); have hbp : Below (w.heap.size + 2) ((w.alloc (.cells #[.slice ia il ic, .slice pa pl pc] 26)).alloc (.cells #[.slice none 0 0, .slice none 0 0] 26)) wp := (by rw [hwp]; exact hbx.alloc (by omega) _); have p0 : wp.cell? ⟨w1.heap.size, 0, none⟩ = some (.int .i64 A) := (by rw [hwp]; simp [cell_push0]); have p1 : wp.cell? ⟨w1.heap.size, 1, none⟩ = some (.int .i64 B) := (by rw [hwp]; simp [cell_push0]); have lp : w1.heap.size < wp.heap.size := cell_lt p0; have P0 := Lib.hid p0; have P1 := Lib.hid p1; have HP1 := Lib.hid hwp; have gx0 := boxedA hbp 0; have gx1 := boxedA hbp 1; rw [hwp] at p0 p1 gx0 gx1; clear hwp) | (go_at_call 56; rw [← HP1.out]; go_must (refine (pairIn_any _ _ _ _ _ _ A B _ hpm).mono ?_; rintro e w2 ⟨rfl, hb2⟩; rw [hin]); have hb2x : Below (w.heap.size + 2) ((w.alloc (.cells #[.slice ia il ic, .slice pa pl pc] 26)).alloc (.cells #[.slice none 0 0, .slice none 0 0] 26)) w2 := hbp.trans (hb2.mono (by simpa using hbp.size)); have gx0 := boxedA hb2x 0; have gx1 := boxedA hb2x 1; have r0 := boxedB hb2x 0; have r1 := boxedB hb2x 1; have q0 := free_boxB hb2x 0; have q1 := free_boxB hb2x 1; have p0 := (hb2.cell (p := ⟨w1.heap.size, 0, none⟩) lp).trans P0.out; have p1 := (hb2.cell (p := ⟨w1.heap.size, 1, none⟩) lp).trans P1.out; have lp2 := cell_lt p0) | (go_at_call 57; go_must (refine (pairLinked_any _ _ _ _ _ _ G A B _ (HG0.out.below ((belBox2 hb2x))) HV.out hA hB).mono ?_; rintro e w3 ⟨rfl, hb3⟩; rw [hlk]); have hb3x : Below (w.heap.size + 2) ((w.alloc (.cells #[.slice ia il ic, .slice pa pl pc] 26)).alloc (.cells #[.slice none 0 0, .slice none 0 0] 26)) w3 := hb2x.trans (hb3.mono (by simpa using hb2x.size)); have gx0 := boxedA hb3x 0; have gx1 := boxedA hb3x 1; have r0 := boxedB hb3x 0; have r1 := boxedB hb3x 1; have q0 := free_boxB hb3x 0; have q1 := free_boxB hb3x 1; have p0 := (hb3.cell (p := ⟨w1.heap.size, 0, none⟩) lp2).trans p0; have p1 := (hb3.cell (p := ⟨w1.heap.size, 1, none⟩) (cell_lt p1)).trans p1))
  obtain ⟨W, hWd⟩ : ∃ x, x = w3.drew := ⟨_, rfl⟩
  have hb3d : Below w3.heap.size w3 W := by rw [hWd]; exact belDraws (Below.refl _ _) 1
  have hbW : Below (w.heap.size + 2) ((w.alloc (.cells #[.slice ia il ic, .slice pa pl pc] 26)).alloc (.cells #[.slice none 0 0, .slice none 0 0] 26)) W := hb3x.trans (hb3d.mono (by simpa using hb3x.size))
  have hsW : w.heap.size + 2 ≤ W.heap.size := by simpa using hbW.size
  have hP0 := (hb3d.cell (p := ⟨w1.heap.size, 0, none⟩) (cell_lt p0)).trans p0
  have hP1 := (hb3d.cell (p := ⟨w1.heap.size, 1, none⟩) (cell_lt p1)).trans p1
  have hPl := cell_lt hP0
  have HWd := Lib.hid hWd
  have HI : Hid (IntsAt W ia G.ids) := Lib.hid (HI0.out.below (belBox2 hbW))
  have HP : Hid (PortsAt W pa G.ps) := Lib.hid (HPo.out.below (belBox2 hbW))
  have Hil := HIL
  have Hpl := HPG
  have z0 := boxedA hbW 0
  have z1 := boxedA hbW 1
  obtain ⟨P, hP⟩ : ∃ P, P = w1.heap.size := ⟨_, rfl⟩
  rw [← hP] at hP0 hP1 hPl ⊢
  have hP2 : w.heap.size + 2 ≤ P := by omega
  clear hWd hP p0 p1 gx0 gx1 r0 r1 q0 q1 lp lp2 P0 P1 HP1
  refine keep_join (fun act a' w' => ∃ (gb : Nat) (a1 : Option Addr) (c1 : Nat) (a2 : Option Addr) (c2 : Nat) (us : List (Value × List (Int × Int))), us.map Prod.snd = G.ps ∧ us.length = pl ∧ Made W gb w' (.slice a1 il c1) (.slice a2 pl c2) (.slice a1 il c1) G.ids (.slice a2 pl c2) (us.map Prod.fst) us ∧ a' = ((((((((act.put (some 44) (.pointer (some ⟨w.heap.size, 0, none⟩))).put (some 45) (.slice ia il ic)).put (some 46) (.slice a1 il c1)).put (some 47) (.pointer (some ⟨w.heap.size, 1, none⟩))).put (some 48) (.slice pa pl pc)).put (some 49) (.slice a2 pl c2)).put (some 50) (.agg #[.slice a1 il c1, .slice a2 pl c2])).put (some 11) (.pointer (some ⟨gb, 0, none⟩)))) ?_ ?_
  · refine keep_start (fun w' => w'.cell? ⟨w.heap.size, 0, none⟩ = some (.slice ia il ic) ∧ w'.cell? ⟨w.heap.size, 1, none⟩ = some (.slice pa pl pc)) [] (by kernel_rfl) ?_
    rw [← HWd.out]
    have hS0 := (⟨(((Below.refl W.heap.size W)).cell (p := ⟨w.heap.size, 0, none⟩) (by simp; omega)).trans z0, (((Below.refl W.heap.size W)).cell (p := ⟨w.heap.size, 1, none⟩) (by simp; omega)).trans z1⟩ : _ ∧ _)
    (refine keep_pure 0 (v := ?_) rfl (by kernel_rfl) (by kernel_rfl) (by kernel_rfl) (by kernel_rfl) (fun _ _ _ h => h) (Or.inl ⟨by rfl, ?_⟩) (.inr (by exact hS0)) ?_; rotate_left 1; focus (intro _; go_simp; (try go_ints); try (with_reducible rfl)); (try simp only [Act.put, List.setIfInBounds_toArray, List.set_cons_zero, List.set_cons_succ]))
    (refine keep_load 1 (v := ?_) rfl (by kernel_rfl) (by kernel_rfl) (by kernel_rfl) (by kernel_rfl) (by kernel_rfl) (by kernel_rfl) (fun _ _ _ h => h) (Or.inl ⟨by rfl, ?_⟩) (by exact hS0) ?_; rotate_left 1; focus (intro _ hSw; (first | (obtain ⟨_, _, _, _, _⟩ := hSw) | (obtain ⟨_, _, _, _⟩ := hSw) | (obtain ⟨_, _, _⟩ := hSw) | (obtain ⟨_, _⟩ := hSw) | skip); go_simp; (try go_ints); try (with_reducible rfl)); (try simp only [Act.put, List.setIfInBounds_toArray, List.set_cons_zero, List.set_cons_succ]))
    (refine keep_pure 3 (v := ?_) rfl (by kernel_rfl) (by kernel_rfl) (by kernel_rfl) (by kernel_rfl) (fun _ _ _ h => h) (Or.inl ⟨by rfl, ?_⟩) (.inr (by exact hS0)) ?_; rotate_left 1; focus (intro _; go_simp; (try go_ints); try (with_reducible rfl)); (try simp only [Act.put, List.setIfInBounds_toArray, List.set_cons_zero, List.set_cons_succ]))
    (refine keep_load 4 (v := ?_) rfl (by kernel_rfl) (by kernel_rfl) (by kernel_rfl) (by kernel_rfl) (by kernel_rfl) (by kernel_rfl) (fun _ _ _ h => h) (Or.inl ⟨by rfl, ?_⟩) (by exact hS0) ?_; rotate_left 1; focus (intro _ hSw; (first | (obtain ⟨_, _, _, _, _⟩ := hSw) | (obtain ⟨_, _, _, _⟩ := hSw) | (obtain ⟨_, _, _⟩ := hSw) | (obtain ⟨_, _⟩ := hSw) | skip); go_simp; (try go_ints); try (with_reducible rfl)); (try simp only [Act.put, List.setIfInBounds_toArray, List.set_cons_zero, List.set_cons_succ]))
    (refine keep_two 2 7 (by kernel_rfl) rfl rfl ?_ ?_)
    · skip
      intro K hK
      go_simp
      refine (cloneI_any ia ic G.ids il Hil.out _ (HI.out.below (Below.refl W.heap.size W)) (by omega)).mono ?_
      rintro e wA ⟨⟨a1, c1, rfl, oA⟩, hbA⟩
      have hWA := ((Below.refl W.heap.size W)).trans (hbA.mono ((Below.refl W.heap.size W)).size)
      have hSA := (⟨((hWA).cell (p := ⟨w.heap.size, 0, none⟩) (by simp; omega)).trans z0, ((hWA).cell (p := ⟨w.heap.size, 1, none⟩) (by simp; omega)).trans z1⟩ : _ ∧ _)
      have oA2 : (idsR (.slice a1 il c1) G.ids).Held W.heap.size wA := by rw [Hil.out] at oA ⊢; exact oA
      refine hK _ _ (fun _ => (by exact hSA)) ?_
      clear hK K oA
      (try simp only [Act.put, List.setIfInBounds_toArray, List.set_cons_zero, List.set_cons_succ])
      (refine keep_two 5 7 (by kernel_rfl) rfl rfl ?_ ?_)
      · skip
        intro K hK
        go_simp
        refine (copies_any pa pl pc G.ps _ (HP.out.below hWA) Hpl.out hpl HRw.out).mono ?_
        rintro e wB ⟨⟨a2, c2, us, rfl, hul, hus, oB⟩, hbB⟩
        have hWB := (hWA).trans (hbB.mono (hWA).size)
        have hSB := (⟨((hWB).cell (p := ⟨w.heap.size, 0, none⟩) (by simp; omega)).trans z0, ((hWB).cell (p := ⟨w.heap.size, 1, none⟩) (by simp; omega)).trans z1⟩ : _ ∧ _)
        refine hK _ _ (fun _ => (by exact hSB)) ?_
        clear hK K
        (try simp only [Act.put, List.setIfInBounds_toArray, List.set_cons_zero, List.set_cons_succ])
        (refine keep_pure 6 (v := ?_) rfl (by kernel_rfl) (by kernel_rfl) (by kernel_rfl) (by kernel_rfl) (fun _ _ _ h => h) (Or.inl ⟨by rfl, ?_⟩) (.inr (by exact hSB)) ?_; rotate_left 1; focus (intro _; go_simp; (try go_ints); try (with_reducible rfl)); (try simp only [Act.put, List.setIfInBounds_toArray, List.set_cons_zero, List.set_cons_succ]))
        (refine keep_one 7 (by kernel_rfl) rfl ?_)
        intro K hK
        go_simp
        obtain ⟨wG, hwG⟩ : ∃ x, x = wB.alloc (.cells #[.slice none 0 0, .slice none 0 0] 26) := ⟨_, rfl⟩
        have hbG : Below wB.heap.size wB wG := by rw [hwG]; exact (Below.refl _ _).alloc (Nat.le_refl _) _
        have g0 : wG.cell? ⟨wB.heap.size, 0, none⟩ = some (.slice none 0 0) := by rw [hwG]; simp [cell_push0]
        have g1 : wG.cell? ⟨wB.heap.size, 1, none⟩ = some (.slice none 0 0) := by rw [hwG]; simp [cell_push0]
        have k0 : wG.frozen? ⟨wB.heap.size, 0, none⟩ = false := by rw [hwG]; simp [free_push0]
        have k1 : wG.frozen? ⟨wB.heap.size, 1, none⟩ = false := by rw [hwG]; simp [free_push0]
        have lG : wG.heap.size = wB.heap.size + 1 := by rw [hwG]; simp
        rw [← hwG]
        clear hwG
        have hWG := (hWB).trans (hbG.mono (hWB).size)
        have hSG := (⟨((hWG).cell (p := ⟨w.heap.size, 0, none⟩) (by simp; omega)).trans z0, ((hWG).cell (p := ⟨w.heap.size, 1, none⟩) (by simp; omega)).trans z1⟩ : _ ∧ _)
        refine hK _ _ (fun _ => (by exact hSG)) ?_
        clear hK K
        (try simp only [Act.put, List.setIfInBounds_toArray, List.set_cons_zero, List.set_cons_succ])
        have sA := hbA.size
        have sB := hbB.size
        have sG := hbG.size
        have tA := hWA.size
        have tB := hWB.size
        have tG := hWG.size
        have hM := made_two (W := W) (gb := wB.heap.size) (x1 := .slice a1 il c1) (x2 := .slice a2 pl c2) oA2 (by omega) (hbB.trans (hbG.mono hbB.size)) oB (by omega) (hbG) (hWG) (by omega) (by omega) (Rw.notAt oA2 (by omega)) (oB.notAt (by omega)) g0 g1 k0 k1
        have hWst : Below W.heap.size W ((wG.setCell ⟨wB.heap.size, 0, none⟩ (.slice a1 il c1)).setCell ⟨wB.heap.size, 1, none⟩ (.slice a2 pl c2)) := ((hWG).setCell (tB) _).setCell (tB) _
        (refine keep_one 8 (by kernel_rfl) rfl ?_)
        intro K hK
        go_simp
        refine hK _ _ (fun _ => (by exact ((⟨((hWst).cell (p := ⟨w.heap.size, 0, none⟩) (by simp; omega)).trans z0, ((hWst).cell (p := ⟨w.heap.size, 1, none⟩) (by simp; omega)).trans z1⟩ : _ ∧ _)))) ?_
        clear hK K
        (try simp only [Act.put, List.setIfInBounds_toArray, List.set_cons_zero, List.set_cons_succ])
        (refine keep_done (by kernel_rfl) ?_)
        exact ⟨_, a1, c1, a2, c2, us, hus, hul, hM, rfl⟩
      · skip
        intro K hK
        go_simp
        obtain ⟨wG, hwG⟩ : ∃ x, x = wA.alloc (.cells #[.slice none 0 0, .slice none 0 0] 26) := ⟨_, rfl⟩
        have hbG : Below wA.heap.size wA wG := by rw [hwG]; exact (Below.refl _ _).alloc (Nat.le_refl _) _
        have g0 : wG.cell? ⟨wA.heap.size, 0, none⟩ = some (.slice none 0 0) := by rw [hwG]; simp [cell_push0]
        have g1 : wG.cell? ⟨wA.heap.size, 1, none⟩ = some (.slice none 0 0) := by rw [hwG]; simp [cell_push0]
        have k0 : wG.frozen? ⟨wA.heap.size, 0, none⟩ = false := by rw [hwG]; simp [free_push0]
        have k1 : wG.frozen? ⟨wA.heap.size, 1, none⟩ = false := by rw [hwG]; simp [free_push0]
        have lG : wG.heap.size = wA.heap.size + 1 := by rw [hwG]; simp
        rw [← hwG]
        clear hwG
        have hWG := (hWA).trans (hbG.mono (hWA).size)
        have hSG := (⟨((hWG).cell (p := ⟨w.heap.size, 0, none⟩) (by simp; omega)).trans z0, ((hWG).cell (p := ⟨w.heap.size, 1, none⟩) (by simp; omega)).trans z1⟩ : _ ∧ _)
        refine hK _ _ (fun _ => (by exact hSG)) ?_
        clear hK K
        (try simp only [Act.put, List.setIfInBounds_toArray, List.set_cons_zero, List.set_cons_succ])
        (refine keep_one 5 (by kernel_rfl) rfl ?_)
        intro K hK
        go_simp
        refine (copies_any pa pl pc G.ps _ (HP.out.below hWG) Hpl.out hpl HRw.out).mono ?_
        rintro e wB ⟨⟨a2, c2, us, rfl, hul, hus, oB⟩, hbB⟩
        have hWB := (hWG).trans (hbB.mono (hWG).size)
        have hSB := (⟨((hWB).cell (p := ⟨w.heap.size, 0, none⟩) (by simp; omega)).trans z0, ((hWB).cell (p := ⟨w.heap.size, 1, none⟩) (by simp; omega)).trans z1⟩ : _ ∧ _)
        refine hK _ _ (fun _ => (by exact hSB)) ?_
        clear hK K
        (try simp only [Act.put, List.setIfInBounds_toArray, List.set_cons_zero, List.set_cons_succ])
        (refine keep_pure 6 (v := ?_) rfl (by kernel_rfl) (by kernel_rfl) (by kernel_rfl) (by kernel_rfl) (fun _ _ _ h => h) (Or.inl ⟨by rfl, ?_⟩) (.inr (by exact hSB)) ?_; rotate_left 1; focus (intro _; go_simp; (try go_ints); try (with_reducible rfl)); (try simp only [Act.put, List.setIfInBounds_toArray, List.set_cons_zero, List.set_cons_succ]))
        have hGl : Below wG.heap.size wG wB := hbB
        have e0 := (hGl.cell (p := ⟨wA.heap.size, 0, none⟩) (by simp; omega)).trans g0
        have e1 := (hGl.cell (p := ⟨wA.heap.size, 1, none⟩) (by simp; omega)).trans g1
        have e2 := (hGl.frozen (p := ⟨wA.heap.size, 0, none⟩) (by simp; omega)).trans k0
        have e3 := (hGl.frozen (p := ⟨wA.heap.size, 1, none⟩) (by simp; omega)).trans k1
        have sA := hbA.size
        have sB := hbB.size
        have sG := hbG.size
        have tA := hWA.size
        have tB := hWB.size
        have tG := hWG.size
        have hM := made_two (W := W) (gb := wA.heap.size) (x1 := .slice a1 il c1) (x2 := .slice a2 pl c2) oA2 (by omega) (hbG.trans (hbB.mono hbG.size)) oB (by omega) (Below.refl _ _) (hWB) (by omega) (by omega) (Rw.notAt oA2 (by omega)) (oB.notAt (by omega)) e0 e1 e2 e3
        have hWst : Below W.heap.size W ((wB.setCell ⟨wA.heap.size, 0, none⟩ (.slice a1 il c1)).setCell ⟨wA.heap.size, 1, none⟩ (.slice a2 pl c2)) := ((hWB).setCell (tA) _).setCell (tA) _
        (refine keep_one 8 (by kernel_rfl) rfl ?_)
        intro K hK
        go_simp
        refine hK _ _ (fun _ => (by exact ((⟨((hWst).cell (p := ⟨w.heap.size, 0, none⟩) (by simp; omega)).trans z0, ((hWst).cell (p := ⟨w.heap.size, 1, none⟩) (by simp; omega)).trans z1⟩ : _ ∧ _)))) ?_
        clear hK K
        (try simp only [Act.put, List.setIfInBounds_toArray, List.set_cons_zero, List.set_cons_succ])
        (refine keep_done (by kernel_rfl) ?_)
        exact ⟨_, a1, c1, a2, c2, us, hus, hul, hM, rfl⟩
    · skip
      intro K hK
      go_simp
      obtain ⟨wG, hwG⟩ : ∃ x, x = W.alloc (.cells #[.slice none 0 0, .slice none 0 0] 26) := ⟨_, rfl⟩
      have hbG : Below W.heap.size W wG := by rw [hwG]; exact (Below.refl _ _).alloc (Nat.le_refl _) _
      have g0 : wG.cell? ⟨W.heap.size, 0, none⟩ = some (.slice none 0 0) := by rw [hwG]; simp [cell_push0]
      have g1 : wG.cell? ⟨W.heap.size, 1, none⟩ = some (.slice none 0 0) := by rw [hwG]; simp [cell_push0]
      have k0 : wG.frozen? ⟨W.heap.size, 0, none⟩ = false := by rw [hwG]; simp [free_push0]
      have k1 : wG.frozen? ⟨W.heap.size, 1, none⟩ = false := by rw [hwG]; simp [free_push0]
      have lG : wG.heap.size = W.heap.size + 1 := by rw [hwG]; simp
      rw [← hwG]
      clear hwG
      have hWG := ((Below.refl W.heap.size W)).trans (hbG.mono ((Below.refl W.heap.size W)).size)
      have hSG := (⟨((hWG).cell (p := ⟨w.heap.size, 0, none⟩) (by simp; omega)).trans z0, ((hWG).cell (p := ⟨w.heap.size, 1, none⟩) (by simp; omega)).trans z1⟩ : _ ∧ _)
      refine hK _ _ (fun _ => (by exact hSG)) ?_
      clear hK K
      (try simp only [Act.put, List.setIfInBounds_toArray, List.set_cons_zero, List.set_cons_succ])
      (refine keep_one 2 (by kernel_rfl) rfl ?_)
      intro K hK
      go_simp
      refine (cloneI_any ia ic G.ids il Hil.out _ (HI.out.below hWG) (by omega)).mono ?_
      rintro e wA ⟨⟨a1, c1, rfl, oA⟩, hbA⟩
      have hWA := (hWG).trans (hbA.mono (hWG).size)
      have hSA := (⟨((hWA).cell (p := ⟨w.heap.size, 0, none⟩) (by simp; omega)).trans z0, ((hWA).cell (p := ⟨w.heap.size, 1, none⟩) (by simp; omega)).trans z1⟩ : _ ∧ _)
      have oA2 : (idsR (.slice a1 il c1) G.ids).Held wG.heap.size wA := by rw [Hil.out] at oA ⊢; exact oA
      refine hK _ _ (fun _ => (by exact hSA)) ?_
      clear hK K oA
      (try simp only [Act.put, List.setIfInBounds_toArray, List.set_cons_zero, List.set_cons_succ])
      (refine keep_one 5 (by kernel_rfl) rfl ?_)
      intro K hK
      go_simp
      refine (copies_any pa pl pc G.ps _ (HP.out.below hWA) Hpl.out hpl HRw.out).mono ?_
      rintro e wB ⟨⟨a2, c2, us, rfl, hul, hus, oB⟩, hbB⟩
      have hWB := (hWA).trans (hbB.mono (hWA).size)
      have hSB := (⟨((hWB).cell (p := ⟨w.heap.size, 0, none⟩) (by simp; omega)).trans z0, ((hWB).cell (p := ⟨w.heap.size, 1, none⟩) (by simp; omega)).trans z1⟩ : _ ∧ _)
      refine hK _ _ (fun _ => (by exact hSB)) ?_
      clear hK K
      (try simp only [Act.put, List.setIfInBounds_toArray, List.set_cons_zero, List.set_cons_succ])
      (refine keep_pure 6 (v := ?_) rfl (by kernel_rfl) (by kernel_rfl) (by kernel_rfl) (by kernel_rfl) (fun _ _ _ h => h) (Or.inl ⟨by rfl, ?_⟩) (.inr (by exact hSB)) ?_; rotate_left 1; focus (intro _; go_simp; (try go_ints); try (with_reducible rfl)); (try simp only [Act.put, List.setIfInBounds_toArray, List.set_cons_zero, List.set_cons_succ]))
      have hGl : Below wG.heap.size wG wB := (hbA.mono (Nat.le_refl _)).trans (hbB.mono hbA.size)
      have e0 := (hGl.cell (p := ⟨W.heap.size, 0, none⟩) (by simp; omega)).trans g0
      have e1 := (hGl.cell (p := ⟨W.heap.size, 1, none⟩) (by simp; omega)).trans g1
      have e2 := (hGl.frozen (p := ⟨W.heap.size, 0, none⟩) (by simp; omega)).trans k0
      have e3 := (hGl.frozen (p := ⟨W.heap.size, 1, none⟩) (by simp; omega)).trans k1
      have sA := hbA.size
      have sB := hbB.size
      have sG := hbG.size
      have tA := hWA.size
      have tB := hWB.size
      have tG := hWG.size
      have hM := made_two (W := W) (gb := W.heap.size) (x1 := .slice a1 il c1) (x2 := .slice a2 pl c2) oA2 (by omega) (hbB) oB (by omega) (Below.refl _ _) (hWB) (by omega) (by omega) (Rw.notAt oA2 (by omega)) (oB.notAt (by omega)) e0 e1 e2 e3
      have hWst : Below W.heap.size W ((wB.setCell ⟨W.heap.size, 0, none⟩ (.slice a1 il c1)).setCell ⟨W.heap.size, 1, none⟩ (.slice a2 pl c2)) := ((hWB).setCell (Nat.le_refl _) _).setCell (Nat.le_refl _) _
      (refine keep_one 8 (by kernel_rfl) rfl ?_)
      intro K hK
      go_simp
      refine hK _ _ (fun _ => (by exact ((⟨((hWst).cell (p := ⟨w.heap.size, 0, none⟩) (by simp; omega)).trans z0, ((hWst).cell (p := ⟨w.heap.size, 1, none⟩) (by simp; omega)).trans z1⟩ : _ ∧ _)))) ?_
      clear hK K
      (try simp only [Act.put, List.setIfInBounds_toArray, List.set_cons_zero, List.set_cons_succ])
      (refine keep_done (by kernel_rfl) ?_)
      exact ⟨_, a1, c1, a2, c2, us, hus, hul, hM, rfl⟩
  · rintro a' w' ⟨gb, a1, c1, a2, c2, us0, hus, hul, hM, rfl⟩
    (try simp only [Act.put, List.setIfInBounds_toArray, List.set_cons_zero, List.set_cons_succ])
    obtain ⟨a0, _, ea, _, p2⟩ := own_slice hM.hdr
    obtain ⟨hb, rfl⟩ : ∃ g, a2 = some ⟨g, 0, none⟩ := by
      injection ea with ea
      obtain ⟨g, hg, _⟩ := p2 (by simp [hul]; omega)
      exact ⟨g, by rw [ea, hg]⟩
    clear ea p2
    have HR0 : Hid (RowsR pl (fun v => rowA G.ps v) us0) := Lib.hid (by rw [HPG.out]; exact rowsR_of hus)
    obtain ⟨wr0, hwr0⟩ : ∃ x, x = w' := ⟨_, rfl⟩
    subst hwr0
    have HM0 := Lib.hid hM
    have e0 := (hM.fr.cell (p := ⟨P, 0, none⟩) hPl).trans hP0
    have e1 := (hM.fr.cell (p := ⟨P, 1, none⟩) hPl).trans hP1
    clear hM hus hul
    have hp0 := pair_0
    have hp1 := pair_1
    go_wp2
    refine wp_loop_rounds 3 ?_
    rw [rounds_succ]
    go_wp2
    obtain ⟨ua0, uc0, hu0, hh0⟩ := HM0.out.rowAt HR0.out hA (xs := rowA G.ps A) rfl
    have c1_0 := HM0.out.c1
    have ck0 := HM0.out.hdrCell hh0
    have HU0 := Lib.hid hu0
    have HH0 := Lib.hid hh0
    have e0_0 := (HM0.out.fr.cell (p := ⟨P, 0, none⟩) hPl).trans hP0
    have e1_0 := (HM0.out.fr.cell (p := ⟨P, 1, none⟩) hPl).trans hP1
    clear hu0 hh0
    refine keep_start (fun w' => w'.cell? ⟨gb, 1, none⟩ = some (.slice (some ⟨hb, 0, none⟩) pl c2) ∧ w'.cell? ⟨hb, A, none⟩ = some (.slice ua0 (rowA G.ps A).length uc0) ∧ w'.cell? ⟨P, 0, none⟩ = some (.int .i64 A) ∧ w'.cell? ⟨P, 1, none⟩ = some (.int .i64 B)) [17] (by kernel_rfl) ?_
    (refine keep_pure 0 (v := ?_) rfl (by kernel_rfl) (by kernel_rfl) (by kernel_rfl) (by kernel_rfl) (fun _ _ _ h => h) (Or.inl ⟨by rfl, ?_⟩) (.inr (by exact ⟨HM0.out.c1, HM0.out.hdrCell HH0.out, e0_0, e1_0⟩)) ?_; rotate_left 1; focus (intro _; go_simp; (try go_ints); try (with_reducible rfl)); (try simp only [Act.put, List.setIfInBounds_toArray, List.set_cons_zero, List.set_cons_succ]))
    (refine keep_pure 2 (v := ?_) rfl (by kernel_rfl) (by kernel_rfl) (by kernel_rfl) (by kernel_rfl) (fun _ _ _ h => h) (Or.inl ⟨by rfl, ?_⟩) (.inr (by exact ⟨HM0.out.c1, HM0.out.hdrCell HH0.out, e0_0, e1_0⟩)) ?_; rotate_left 1; focus (intro _; go_simp; (try go_ints); try (with_reducible rfl)); (try simp only [Act.put, List.setIfInBounds_toArray, List.set_cons_zero, List.set_cons_succ]))
    (refine keep_pure 3 (v := ?_) rfl (by kernel_rfl) (by kernel_rfl) (by kernel_rfl) (by kernel_rfl) (fun _ _ _ h => h) (Or.inl ⟨by rfl, ?_⟩) (.inr (by exact ⟨HM0.out.c1, HM0.out.hdrCell HH0.out, e0_0, e1_0⟩)) ?_; rotate_left 1; focus (intro _; go_simp; (try go_ints); try (with_reducible rfl)); (try simp only [Act.put, List.setIfInBounds_toArray, List.set_cons_zero, List.set_cons_succ]))
    (refine keep_pure 5 (v := ?_) rfl (by kernel_rfl) (by kernel_rfl) (by kernel_rfl) (by kernel_rfl) (fun _ _ _ h => h) (Or.inl ⟨by rfl, ?_⟩) (.inr (by exact ⟨HM0.out.c1, HM0.out.hdrCell HH0.out, e0_0, e1_0⟩)) ?_; rotate_left 1; focus (intro _; go_simp; (try go_ints); try (with_reducible rfl)); (try simp only [Act.put, List.setIfInBounds_toArray, List.set_cons_zero, List.set_cons_succ]))
    (refine keep_pure 8 (v := ?_) rfl (by kernel_rfl) (by kernel_rfl) (by kernel_rfl) (by kernel_rfl) (fun _ _ _ h => h) (Or.inl ⟨by rfl, ?_⟩) (.inr (by exact ⟨HM0.out.c1, HM0.out.hdrCell HH0.out, e0_0, e1_0⟩)) ?_; rotate_left 1; focus (intro _; go_simp; (try go_ints); try (with_reducible rfl)); (try simp only [Act.put, List.setIfInBounds_toArray, List.set_cons_zero, List.set_cons_succ]))
    (refine keep_pure 9 (v := ?_) rfl (by kernel_rfl) (by kernel_rfl) (by kernel_rfl) (by kernel_rfl) (fun _ _ _ h => h) (Or.inl ⟨by rfl, ?_⟩) (.inr (by exact ⟨HM0.out.c1, HM0.out.hdrCell HH0.out, e0_0, e1_0⟩)) ?_; rotate_left 1; focus (intro _; go_simp; (try go_ints); try (with_reducible rfl)); (try simp only [Act.put, List.setIfInBounds_toArray, List.set_cons_zero, List.set_cons_succ]))
    (refine keep_pure 10 (v := ?_) rfl (by kernel_rfl) (by kernel_rfl) (by kernel_rfl) (by kernel_rfl) (fun _ _ _ h => h) (Or.inl ⟨by rfl, ?_⟩) (.inr (by exact ⟨HM0.out.c1, HM0.out.hdrCell HH0.out, e0_0, e1_0⟩)) ?_; rotate_left 1; focus (intro _; go_simp; (try go_ints); try (with_reducible rfl)); (try simp only [Act.put, List.setIfInBounds_toArray, List.set_cons_zero, List.set_cons_succ]))
    (refine keep_pure 12 (v := ?_) rfl (by kernel_rfl) (by kernel_rfl) (by kernel_rfl) (by kernel_rfl) (fun _ _ _ h => h) (Or.inl ⟨by rfl, ?_⟩) (.inr (by exact ⟨HM0.out.c1, HM0.out.hdrCell HH0.out, e0_0, e1_0⟩)) ?_; rotate_left 1; focus (intro _; go_simp; (try go_ints); try (with_reducible rfl)); (try simp only [Act.put, List.setIfInBounds_toArray, List.set_cons_zero, List.set_cons_succ]))
    (refine keep_load 1 (v := ?_) rfl (by kernel_rfl) (by kernel_rfl) (by kernel_rfl) (by kernel_rfl) (by kernel_rfl) (by kernel_rfl) (fun _ _ _ h => h) (Or.inl ⟨by rfl, ?_⟩) (by exact ⟨HM0.out.c1, HM0.out.hdrCell HH0.out, e0_0, e1_0⟩) ?_; rotate_left 1; focus (intro _ hSw; (first | (obtain ⟨_, _, _, _, _⟩ := hSw) | (obtain ⟨_, _, _, _⟩ := hSw) | (obtain ⟨_, _, _⟩ := hSw) | (obtain ⟨_, _⟩ := hSw) | skip); go_simp; (try go_ints); try (with_reducible rfl)); (try simp only [Act.put, List.setIfInBounds_toArray, List.set_cons_zero, List.set_cons_succ]))
    (refine keep_load 4 (v := ?_) rfl (by kernel_rfl) (by kernel_rfl) (by kernel_rfl) (by kernel_rfl) (by kernel_rfl) (by kernel_rfl) (fun _ _ _ h => h) (Or.inl ⟨by rfl, ?_⟩) (by exact ⟨HM0.out.c1, HM0.out.hdrCell HH0.out, e0_0, e1_0⟩) ?_; rotate_left 1; focus (intro _ hSw; (first | (obtain ⟨_, _, _, _, _⟩ := hSw) | (obtain ⟨_, _, _, _⟩ := hSw) | (obtain ⟨_, _, _⟩ := hSw) | (obtain ⟨_, _⟩ := hSw) | skip); go_simp; (try go_ints); try (with_reducible rfl)); (try simp only [Act.put, List.setIfInBounds_toArray, List.set_cons_zero, List.set_cons_succ]))
    (refine keep_pure 6 (v := ?_) rfl (by kernel_rfl) (by kernel_rfl) (by kernel_rfl) (by kernel_rfl) (fun _ _ _ h => h) (Or.inl ⟨by rfl, ?_⟩) (.inr (by exact ⟨HM0.out.c1, HM0.out.hdrCell HH0.out, e0_0, e1_0⟩)) ?_; rotate_left 1; focus (intro _; go_simp; (try go_ints); try (with_reducible rfl)); (try simp only [Act.put, List.setIfInBounds_toArray, List.set_cons_zero, List.set_cons_succ]))
    (refine keep_load 7 (v := ?_) rfl (by kernel_rfl) (by kernel_rfl) (by kernel_rfl) (by kernel_rfl) (by kernel_rfl) (by kernel_rfl) (fun _ _ _ h => h) (Or.inl ⟨by rfl, ?_⟩) (by exact ⟨HM0.out.c1, HM0.out.hdrCell HH0.out, e0_0, e1_0⟩) ?_; rotate_left 1; focus (intro _ hSw; (first | (obtain ⟨_, _, _, _, _⟩ := hSw) | (obtain ⟨_, _, _, _⟩ := hSw) | (obtain ⟨_, _, _⟩ := hSw) | (obtain ⟨_, _⟩ := hSw) | skip); go_simp; (try go_ints); try (with_reducible rfl)); (try simp only [Act.put, List.setIfInBounds_toArray, List.set_cons_zero, List.set_cons_succ]))
    (refine keep_load 11 (v := ?_) rfl (by kernel_rfl) (by kernel_rfl) (by kernel_rfl) (by kernel_rfl) (by kernel_rfl) (by kernel_rfl) (fun _ _ _ h => h) (Or.inl ⟨by rfl, ?_⟩) (by exact ⟨HM0.out.c1, HM0.out.hdrCell HH0.out, e0_0, e1_0⟩) ?_; rotate_left 1; focus (intro _ hSw; (first | (obtain ⟨_, _, _, _, _⟩ := hSw) | (obtain ⟨_, _, _, _⟩ := hSw) | (obtain ⟨_, _, _⟩ := hSw) | (obtain ⟨_, _⟩ := hSw) | skip); go_simp; (try go_ints); try (with_reducible rfl)); (try simp only [Act.put, List.setIfInBounds_toArray, List.set_cons_zero, List.set_cons_succ]))
    (refine keep_pure 13 (v := ?_) rfl (by kernel_rfl) (by kernel_rfl) (by kernel_rfl) (by kernel_rfl) (fun _ _ _ h => h) (Or.inl ⟨by rfl, ?_⟩) (.inr (by exact ⟨HM0.out.c1, HM0.out.hdrCell HH0.out, e0_0, e1_0⟩)) ?_; rotate_left 1; focus (intro _; go_simp; (try go_ints); try (with_reducible rfl)); (try simp only [Act.put, List.setIfInBounds_toArray, List.set_cons_zero, List.set_cons_succ]))
    (refine keep_one 14 (by kernel_rfl) rfl ?_)
    intro K hK
    go_simp
    refine hK _ _ (fun h => (by exact ⟨(HM0.out.alloc _).drew.c1, (HM0.out.alloc _).drew.hdrCell HH0.out, ((HM0.out.alloc _).drew.fr.cell (p := ⟨P, 0, none⟩) hPl).trans hP0, ((HM0.out.alloc _).drew.fr.cell (p := ⟨P, 1, none⟩) hPl).trans hP1⟩)) ?_
    clear hK K
    (try simp only [Act.put, List.setIfInBounds_toArray, List.set_cons_zero, List.set_cons_succ])
    (refine keep_one 15 (by kernel_rfl) rfl ?_)
    intro K hK
    (refine step_link rfl (.tmp 63) (.tmp 70) 48 rfl Try.underlying48 wr0.heap.size ((B : Int), wt) A _ _ (by rfl) (by rfl) ((HM0.out.alloc (.cells #[.int .i64 ((B : Int)), .int .i64 wt] 50)).drew) HU0.out (by simp [cell_push0]) (by simp [cell_push0]) (by simp; omega) ?_)
    intro g1 cap1 wn1 hMn
    have z0' := hMn.c1
    have z1' := hMn.hdrCell HH0.out
    have z2' := hMn.hdrFree A
    have z3' := (hMn.fr.cell (p := ⟨P, 0, none⟩) hPl).trans hP0
    have z4' := (hMn.fr.cell (p := ⟨P, 1, none⟩) hPl).trans hP1
    have HN1 := Lib.hid hMn
    clear hMn
    refine hK _ _ (fun h => (by exact ⟨z0', z1', z3', z4'⟩)) ?_
    clear hK K
    (try simp only [Act.put, List.setIfInBounds_toArray, List.set_cons_zero, List.set_cons_succ])
    (refine keep_pure 16 (v := ?_) rfl (by kernel_rfl) (by kernel_rfl) (by kernel_rfl) (by kernel_rfl) (fun _ _ _ h => h) (Or.inl ⟨by rfl, ?_⟩) (.inr (by exact ⟨z0', z1', z3', z4'⟩)) ?_; rotate_left 1; focus (intro _; go_simp; (try go_ints); try (with_reducible rfl)); (try simp only [Act.put, List.setIfInBounds_toArray, List.set_cons_zero, List.set_cons_succ]))
    (refine keep_one 17 (by kernel_rfl) rfl ?_)
    intro K hK
    go_simp
    refine hK _ _ (fun h => absurd h (calm_not (by kernel_rfl))) ?_
    clear hK K
    (try simp only [Act.put, List.setIfInBounds_toArray, List.set_cons_zero, List.set_cons_succ])
    (refine keep_done (by kernel_rfl) ?_)
    have hM1 := HN1.out.stored
    have hR1 : RowsR pl (connH G A B wt) (us0.set A ((.slice (some ⟨g1, 0, none⟩) ((rowA G.ps A).length + 1) cap1), rowA G.ps A ++ [((B : Int), wt)])) := HR0.out.set (by simp [connH]) (fun v hv _ => by simp [connH, hv])
    obtain ⟨wr1, hw1⟩ : ∃ x, x = wn1.setCell ⟨hb, A, none⟩ (.slice (some ⟨g1, 0, none⟩) ((rowA G.ps A).length + 1) cap1) := ⟨_, rfl⟩
    rw [← hw1] at hM1 ⊢
    clear hw1 z0' z1' z2' z3' z4'
    generalize us0.set A _ = us1 at hM1 hR1
    have HM1 := Lib.hid hM1
    have HR1 := Lib.hid hR1
    clear hM1 hR1
    go_wp2
    rw [rounds_succ]
    go_wp2
    obtain ⟨ua1, uc1, hu1, hh1⟩ := HM1.out.rowAt HR1.out hB (xs := rowA G.ps B) (by unfold connH; rw [if_neg (Ne.symm hne)])
    have c1_1 := HM1.out.c1
    have ck1 := HM1.out.hdrCell hh1
    have HU1 := Lib.hid hu1
    have HH1 := Lib.hid hh1
    have e0_1 := (HM1.out.fr.cell (p := ⟨P, 0, none⟩) hPl).trans hP0
    have e1_1 := (HM1.out.fr.cell (p := ⟨P, 1, none⟩) hPl).trans hP1
    clear hu1 hh1
    refine keep_start (fun w' => w'.cell? ⟨gb, 1, none⟩ = some (.slice (some ⟨hb, 0, none⟩) pl c2) ∧ w'.cell? ⟨hb, B, none⟩ = some (.slice ua1 (rowA G.ps B).length uc1) ∧ w'.cell? ⟨P, 0, none⟩ = some (.int .i64 A) ∧ w'.cell? ⟨P, 1, none⟩ = some (.int .i64 B)) [17] (by kernel_rfl) ?_
    (refine keep_pure 0 (v := ?_) rfl (by kernel_rfl) (by kernel_rfl) (by kernel_rfl) (by kernel_rfl) (fun _ _ _ h => h) (Or.inl ⟨by rfl, ?_⟩) (.inr (by exact ⟨HM1.out.c1, HM1.out.hdrCell HH1.out, e0_1, e1_1⟩)) ?_; rotate_left 1; focus (intro _; go_simp; (try go_ints); try (with_reducible rfl)); (try simp only [Act.put, List.setIfInBounds_toArray, List.set_cons_zero, List.set_cons_succ]))
    (refine keep_pure 2 (v := ?_) rfl (by kernel_rfl) (by kernel_rfl) (by kernel_rfl) (by kernel_rfl) (fun _ _ _ h => h) (Or.inl ⟨by rfl, ?_⟩) (.inr (by exact ⟨HM1.out.c1, HM1.out.hdrCell HH1.out, e0_1, e1_1⟩)) ?_; rotate_left 1; focus (intro _; go_simp; (try go_ints); try (with_reducible rfl)); (try simp only [Act.put, List.setIfInBounds_toArray, List.set_cons_zero, List.set_cons_succ]))
    (refine keep_pure 3 (v := ?_) rfl (by kernel_rfl) (by kernel_rfl) (by kernel_rfl) (by kernel_rfl) (fun _ _ _ h => h) (Or.inl ⟨by rfl, ?_⟩) (.inr (by exact ⟨HM1.out.c1, HM1.out.hdrCell HH1.out, e0_1, e1_1⟩)) ?_; rotate_left 1; focus (intro _; go_simp; (try go_ints); try (with_reducible rfl)); (try simp only [Act.put, List.setIfInBounds_toArray, List.set_cons_zero, List.set_cons_succ]))
    (refine keep_pure 5 (v := ?_) rfl (by kernel_rfl) (by kernel_rfl) (by kernel_rfl) (by kernel_rfl) (fun _ _ _ h => h) (Or.inl ⟨by rfl, ?_⟩) (.inr (by exact ⟨HM1.out.c1, HM1.out.hdrCell HH1.out, e0_1, e1_1⟩)) ?_; rotate_left 1; focus (intro _; go_simp; (try go_ints); try (with_reducible rfl)); (try simp only [Act.put, List.setIfInBounds_toArray, List.set_cons_zero, List.set_cons_succ]))
    (refine keep_pure 8 (v := ?_) rfl (by kernel_rfl) (by kernel_rfl) (by kernel_rfl) (by kernel_rfl) (fun _ _ _ h => h) (Or.inl ⟨by rfl, ?_⟩) (.inr (by exact ⟨HM1.out.c1, HM1.out.hdrCell HH1.out, e0_1, e1_1⟩)) ?_; rotate_left 1; focus (intro _; go_simp; (try go_ints); try (with_reducible rfl)); (try simp only [Act.put, List.setIfInBounds_toArray, List.set_cons_zero, List.set_cons_succ]))
    (refine keep_pure 9 (v := ?_) rfl (by kernel_rfl) (by kernel_rfl) (by kernel_rfl) (by kernel_rfl) (fun _ _ _ h => h) (Or.inl ⟨by rfl, ?_⟩) (.inr (by exact ⟨HM1.out.c1, HM1.out.hdrCell HH1.out, e0_1, e1_1⟩)) ?_; rotate_left 1; focus (intro _; go_simp; (try go_ints); try (with_reducible rfl)); (try simp only [Act.put, List.setIfInBounds_toArray, List.set_cons_zero, List.set_cons_succ]))
    (refine keep_pure 10 (v := ?_) rfl (by kernel_rfl) (by kernel_rfl) (by kernel_rfl) (by kernel_rfl) (fun _ _ _ h => h) (Or.inl ⟨by rfl, ?_⟩) (.inr (by exact ⟨HM1.out.c1, HM1.out.hdrCell HH1.out, e0_1, e1_1⟩)) ?_; rotate_left 1; focus (intro _; go_simp; (try go_ints); try (with_reducible rfl)); (try simp only [Act.put, List.setIfInBounds_toArray, List.set_cons_zero, List.set_cons_succ]))
    (refine keep_pure 12 (v := ?_) rfl (by kernel_rfl) (by kernel_rfl) (by kernel_rfl) (by kernel_rfl) (fun _ _ _ h => h) (Or.inl ⟨by rfl, ?_⟩) (.inr (by exact ⟨HM1.out.c1, HM1.out.hdrCell HH1.out, e0_1, e1_1⟩)) ?_; rotate_left 1; focus (intro _; go_simp; (try go_ints); try (with_reducible rfl)); (try simp only [Act.put, List.setIfInBounds_toArray, List.set_cons_zero, List.set_cons_succ]))
    (refine keep_load 1 (v := ?_) rfl (by kernel_rfl) (by kernel_rfl) (by kernel_rfl) (by kernel_rfl) (by kernel_rfl) (by kernel_rfl) (fun _ _ _ h => h) (Or.inl ⟨by rfl, ?_⟩) (by exact ⟨HM1.out.c1, HM1.out.hdrCell HH1.out, e0_1, e1_1⟩) ?_; rotate_left 1; focus (intro _ hSw; (first | (obtain ⟨_, _, _, _, _⟩ := hSw) | (obtain ⟨_, _, _, _⟩ := hSw) | (obtain ⟨_, _, _⟩ := hSw) | (obtain ⟨_, _⟩ := hSw) | skip); go_simp; (try go_ints); try (with_reducible rfl)); (try simp only [Act.put, List.setIfInBounds_toArray, List.set_cons_zero, List.set_cons_succ]))
    (refine keep_load 4 (v := ?_) rfl (by kernel_rfl) (by kernel_rfl) (by kernel_rfl) (by kernel_rfl) (by kernel_rfl) (by kernel_rfl) (fun _ _ _ h => h) (Or.inl ⟨by rfl, ?_⟩) (by exact ⟨HM1.out.c1, HM1.out.hdrCell HH1.out, e0_1, e1_1⟩) ?_; rotate_left 1; focus (intro _ hSw; (first | (obtain ⟨_, _, _, _, _⟩ := hSw) | (obtain ⟨_, _, _, _⟩ := hSw) | (obtain ⟨_, _, _⟩ := hSw) | (obtain ⟨_, _⟩ := hSw) | skip); go_simp; (try go_ints); try (with_reducible rfl)); (try simp only [Act.put, List.setIfInBounds_toArray, List.set_cons_zero, List.set_cons_succ]))
    (refine keep_pure 6 (v := ?_) rfl (by kernel_rfl) (by kernel_rfl) (by kernel_rfl) (by kernel_rfl) (fun _ _ _ h => h) (Or.inl ⟨by rfl, ?_⟩) (.inr (by exact ⟨HM1.out.c1, HM1.out.hdrCell HH1.out, e0_1, e1_1⟩)) ?_; rotate_left 1; focus (intro _; go_simp; (try go_ints); try (with_reducible rfl)); (try simp only [Act.put, List.setIfInBounds_toArray, List.set_cons_zero, List.set_cons_succ]))
    (refine keep_load 7 (v := ?_) rfl (by kernel_rfl) (by kernel_rfl) (by kernel_rfl) (by kernel_rfl) (by kernel_rfl) (by kernel_rfl) (fun _ _ _ h => h) (Or.inl ⟨by rfl, ?_⟩) (by exact ⟨HM1.out.c1, HM1.out.hdrCell HH1.out, e0_1, e1_1⟩) ?_; rotate_left 1; focus (intro _ hSw; (first | (obtain ⟨_, _, _, _, _⟩ := hSw) | (obtain ⟨_, _, _, _⟩ := hSw) | (obtain ⟨_, _, _⟩ := hSw) | (obtain ⟨_, _⟩ := hSw) | skip); go_simp; (try go_ints); try (with_reducible rfl)); (try simp only [Act.put, List.setIfInBounds_toArray, List.set_cons_zero, List.set_cons_succ]))
    (refine keep_load 11 (v := ?_) rfl (by kernel_rfl) (by kernel_rfl) (by kernel_rfl) (by kernel_rfl) (by kernel_rfl) (by kernel_rfl) (fun _ _ _ h => h) (Or.inl ⟨by rfl, ?_⟩) (by exact ⟨HM1.out.c1, HM1.out.hdrCell HH1.out, e0_1, e1_1⟩) ?_; rotate_left 1; focus (intro _ hSw; (first | (obtain ⟨_, _, _, _, _⟩ := hSw) | (obtain ⟨_, _, _, _⟩ := hSw) | (obtain ⟨_, _, _⟩ := hSw) | (obtain ⟨_, _⟩ := hSw) | skip); go_simp; (try go_ints); try (with_reducible rfl)); (try simp only [Act.put, List.setIfInBounds_toArray, List.set_cons_zero, List.set_cons_succ]))
    (refine keep_pure 13 (v := ?_) rfl (by kernel_rfl) (by kernel_rfl) (by kernel_rfl) (by kernel_rfl) (fun _ _ _ h => h) (Or.inl ⟨by rfl, ?_⟩) (.inr (by exact ⟨HM1.out.c1, HM1.out.hdrCell HH1.out, e0_1, e1_1⟩)) ?_; rotate_left 1; focus (intro _; go_simp; (try go_ints); try (with_reducible rfl)); (try simp only [Act.put, List.setIfInBounds_toArray, List.set_cons_zero, List.set_cons_succ]))
    (refine keep_one 14 (by kernel_rfl) rfl ?_)
    intro K hK
    go_simp
    refine hK _ _ (fun h => (by exact ⟨(HM1.out.alloc _).drew.c1, (HM1.out.alloc _).drew.hdrCell HH1.out, ((HM1.out.alloc _).drew.fr.cell (p := ⟨P, 0, none⟩) hPl).trans hP0, ((HM1.out.alloc _).drew.fr.cell (p := ⟨P, 1, none⟩) hPl).trans hP1⟩)) ?_
    clear hK K
    (try simp only [Act.put, List.setIfInBounds_toArray, List.set_cons_zero, List.set_cons_succ])
    (refine keep_one 15 (by kernel_rfl) rfl ?_)
    intro K hK
    (refine step_link rfl (.tmp 63) (.tmp 70) 48 rfl Try.underlying48 wr1.heap.size ((A : Int), wt) B _ _ (by rfl) (by rfl) ((HM1.out.alloc (.cells #[.int .i64 ((A : Int)), .int .i64 wt] 50)).drew) HU1.out (by simp [cell_push0]) (by simp [cell_push0]) (by simp; omega) ?_)
    intro g2 cap2 wn2 hMn
    have z0' := hMn.c1
    have z1' := hMn.hdrCell HH1.out
    have z2' := hMn.hdrFree B
    have z3' := (hMn.fr.cell (p := ⟨P, 0, none⟩) hPl).trans hP0
    have z4' := (hMn.fr.cell (p := ⟨P, 1, none⟩) hPl).trans hP1
    have HN2 := Lib.hid hMn
    clear hMn
    refine hK _ _ (fun h => (by exact ⟨z0', z1', z3', z4'⟩)) ?_
    clear hK K
    (try simp only [Act.put, List.setIfInBounds_toArray, List.set_cons_zero, List.set_cons_succ])
    (refine keep_pure 16 (v := ?_) rfl (by kernel_rfl) (by kernel_rfl) (by kernel_rfl) (by kernel_rfl) (fun _ _ _ h => h) (Or.inl ⟨by rfl, ?_⟩) (.inr (by exact ⟨z0', z1', z3', z4'⟩)) ?_; rotate_left 1; focus (intro _; go_simp; (try go_ints); try (with_reducible rfl)); (try simp only [Act.put, List.setIfInBounds_toArray, List.set_cons_zero, List.set_cons_succ]))
    (refine keep_one 17 (by kernel_rfl) rfl ?_)
    intro K hK
    go_simp
    refine hK _ _ (fun h => absurd h (calm_not (by kernel_rfl))) ?_
    clear hK K
    (try simp only [Act.put, List.setIfInBounds_toArray, List.set_cons_zero, List.set_cons_succ])
    (refine keep_done (by kernel_rfl) ?_)
    have hM2 := HN2.out.stored
    have hR2 : RowsR pl (connR G A B wt) (us1.set B ((.slice (some ⟨g2, 0, none⟩) ((rowA G.ps B).length + 1) cap2), rowA G.ps B ++ [((A : Int), wt)])) := HR1.out.set (by simp [connR]) (fun v hv _ => by simp [connR, hv])
    obtain ⟨wr2, hw2⟩ : ∃ x, x = wn2.setCell ⟨hb, B, none⟩ (.slice (some ⟨g2, 0, none⟩) ((rowA G.ps B).length + 1) cap2) := ⟨_, rfl⟩
    rw [← hw2] at hM2 ⊢
    clear hw2 z0' z1' z2' z3' z4'
    generalize us1.set B _ = us2 at hM2 hR2
    have HM2 := Lib.hid hM2
    have HR2 := Lib.hid hR2
    clear hM2 hR2
    go_wp2
    have d0 := HM2.out.c0
    have d1 := HM2.out.c1
    have hbw' := hbW.trans (HM2.out.fr.mono (by simpa using hsW))
    have r0 := boxedB hbw' 0
    have r1 := boxedB hbw' 1
    have q0 := free_boxB hbw' 0
    have q1 := free_boxB hbw' 1
    rw [rounds_succ]
    go_wp2
    refine bodyPost_ret (v := .tuple #[.agg #[.slice a1 il c1, .slice (some ⟨hb, 0, none⟩) pl c2], .int .i64 0]) (by rw [results_c1 (fn := Try.f31) rfl]; go_simp) rfl ?_
    refine own_box2 ⟨rfl, us2, HM2.out.rows.mono (show w.heap.size + 2 ≤ W.heap.size from hsW), ?_, conn_fit HFG.out (by omega) (by omega) (by rw [← HPG.out]; exact hA) (by rw [← HPG.out]; exact hB) ⟨by omega, by omega⟩⟩ hbw'
    rw [HR2.out.all, HPG.out]
    rfl
theorem connP_any (ia pa : Option Addr) (il ic pl pc : Nat) (G : Gr) (a b wt : Int) (w : World) (hG : GraphAt w ia il pa pl G) :
    Calls Try.prog 31 #[.agg #[.slice ia il ic, .slice pa pl pc], .int .i64 a, .int .i64 b, .int .i64 wt] w fun e w' => FamOwn w.heap.size (connO G a b wt) e w' ∧ Below w.heap.size w w' := by
  have hpl := hG.pl
  unfold connO
  cases hv : validB G with
  | false =>
    rw [if_neg (by simp)]
    exact connPE_any ia pa il ic pl pc G a b wt w hG hv
  | true =>
    rw [if_pos rfl, ← hpl]
    cases hn : nodesB pl a b with
    | false =>
      rw [if_neg (by simp)]
      refine connPF_any ia pa il ic pl pc G a b wt w hG hv ?_
      rw [nodesB_eq] at hn
      cases hi : inP pl a b with
      | false => exact .inl rfl
      | true =>
        rw [hi] at hn
        exact .inr ⟨rfl, by simpa using hn⟩
    | true =>
      obtain ⟨A, B, rfl, rfl, hA, hB, hne⟩ := nodesB_of hn
      simp only [Int.toNat_natCast]
      rcases Int.lt_or_le (portF (rowA G.ps A) B) 0 with hp | hp
      · have hd : decide (portF (rowA G.ps A) B < 0) = true := by simp [hp]
        by_cases h1 : wt < 1
        · rw [if_neg (fun h => by have := inB_true h.2.2; omega)]
          exact connPH_any ia pa il ic pl pc G A B wt w hG hv hA hB hne (.inr (.inl ⟨hd, h1⟩))
        · by_cases h2 : 15 < wt
          · rw [if_neg (fun h => by have := inB_true h.2.2; omega)]
            exact connPH_any ia pa il ic pl pc G A B wt w hG hv hA hB hne (.inr (.inr ⟨hd, h2⟩))
          · rw [if_pos ⟨trivial, hp, inB_mk ⟨by omega, by omega⟩⟩]
            exact connP_ok ia pa il ic pl pc G A B wt w hG hv hA hB hne hd (by omega) (by omega)
      · rw [if_neg (fun h => by have := h.2.1; omega)]
        exact connPH_any ia pa il ic pl pc G A B wt w hG hv hA hB hne (.inl (by simp; omega))
end Go.Proofs.Ytkffpipcjdhbaaa
