/- What Identify of package family answers. -/
import Derived.Test.YtfbbkiibhdgojaaMadeTwo
import Derived.Test.YtfbbkiibhdgojaaRefF9
import Derived.Test.YtfbbkiibhdgojaaFam4
namespace Go.Proofs.Ytfbbkiibhdgojaa
open Go.RowKit

theorem idE_err {w w1 : World} {C D : Array Value} {t u : TypeId} {u0 u1 : Value} (k : Int) (hb : Below (w.heap.size + 2) ((w.alloc (.cells C t)).alloc (.cells D u)) w1) :
    FamOwn w.heap.size (.inl k) (famRet (.slice none 0 0) (.slice none 0 0) k) ((w1.setCell ⟨w.heap.size + 1, 0, none⟩ u0).setCell ⟨w.heap.size + 1, 1, none⟩ u1) ∧ Below w.heap.size w ((w1.setCell ⟨w.heap.size + 1, 0, none⟩ u0).setCell ⟨w.heap.size + 1, 1, none⟩ u1) :=
  ⟨noFam k _, ((belBox2 hb).setCell (Nat.le_succ _) _).setCell (Nat.le_succ _) _⟩
theorem rows_short {G : Gr} (hV : ValidG G) : ∀ v, v < G.ps.length → (rowA G.ps v).length ≤ 1000 := fun v hv => by
  have := (hV.links v hv).len hv
  have := hV.le
  omega
set_option maxHeartbeats 4000000 in
set_option maxRecDepth 100000 in
theorem identP_any (ia pa : Option Addr) (il ic pl pc : Nat) (G : Gr) (a : Option Addr) (c : Nat) (zs : List Int) (m : Nat) (hm : m = zs.length) (w : World) (hG : GraphAt w ia il pa pl G) (hz : IntsAt w a zs) (hzl : m ≤ 1000) :
    Calls Try.prog 9 #[.agg #[.slice ia il ic, .slice pa pl pc], .slice a m c] w fun e w' => FamOwn w.heap.size (identO G zs) e w' ∧ Below w.heap.size w w' := by
  have hbel0 : Below w.heap.size w ((w.alloc (.cells #[.slice ia il ic, .slice pa pl pc] 25)).alloc (.cells #[.slice none 0 0, .slice none 0 0] 25)) := ((Below.refl _ _).alloc (Nat.le_refl _) _).alloc (by simp) _
  have HGX := Lib.hid (hG.below hbel0)
  have HFit := Lib.hid (fit_ps hG)
  have HPG := Lib.hid hG.pl
  have Hm := Lib.hid hm
  have HZ := Lib.hid hz
  have HP0 := Lib.hid hG.ports
  clear hm hG hz hbel0
  cases hv : validB G with
  | false =>
    have HO : Hid (identO G zs = .inl 1) := Lib.hid (by unfold identO; rw [hv]; rfl)
    go_enter Try.func9, Try.ntmps9
    go_wp2_with (go_at_call 18; go_must (refine (valid_any _ _ _ _ _ _ G _ HGX.out).mono ?_; rintro e w1 ⟨rfl, hb1⟩; rw [hv]); have hbx : Below (w.heap.size + 2) ((w.alloc (.cells #[.slice ia il ic, .slice pa pl pc] 25)).alloc (.cells #[.slice none 0 0, .slice none 0 0] 25)) w1 := hb1.mono (by simp); have r0 := boxedB hbx 0; have r1 := boxedB hbx 1; have q0 := free_boxB hbx 0; have q1 := free_boxB hbx 1)
    refine bodyPost_ret (v := .tuple #[.agg #[.slice none 0 0, .slice none 0 0], .int .i64 1]) (by rw [results_c1 (fn := Try.f9) rfl]; go_simp) rfl ?_
    rw [HO.out]
    exact idE_err 1 hbx
  | true =>
    have HV := Lib.hid (validB_iff.1 hv)
    have hpl : pl ≤ 1000 := by have := HV.out.le; rw [HPG.out]; omega
    have hil := hzl
    have HRw : Hid (∀ v, v < pl → (rowA G.ps v).length ≤ 1000) := Lib.hid (fun v hv => rows_short HV.out v (by rw [← HPG.out]; exact hv))
    go_enter Try.func9, Try.ntmps9
    go_wp2_with (go_at_call 18; go_must (refine (valid_any _ _ _ _ _ _ G _ HGX.out).mono ?_; rintro e w1 ⟨rfl, hb1⟩; rw [hv]); have hbx : Below (w.heap.size + 2) ((w.alloc (.cells #[.slice ia il ic, .slice pa pl pc] 25)).alloc (.cells #[.slice none 0 0, .slice none 0 0] 25)) w1 := hb1.mono (by simp))
    obtain ⟨W, hWd⟩ : ∃ x, x = w1.drew := ⟨_, rfl⟩
    have hbW : Below (w.heap.size + 2) ((w.alloc (.cells #[.slice ia il ic, .slice pa pl pc] 25)).alloc (.cells #[.slice none 0 0, .slice none 0 0] 25)) W := by rw [hWd]; exact belDraws hbx 1
    have hsW : w.heap.size + 2 ≤ W.heap.size := by simpa using hbW.size
    have HWd := Lib.hid hWd
    have HI : Hid (IntsAt W a zs) := Lib.hid (HZ.out.below (belBox2 hbW))
    have HP : Hid (PortsAt W pa G.ps) := Lib.hid (HP0.out.below (belBox2 hbW))
    have Hil := Hm
    have Hpl := HPG
    have z0 := boxedA hbW 1
    clear hWd
    refine keep_join (fun act a' w' => ∃ (gb : Nat) (a1 : Option Addr) (c1 : Nat) (a2 : Option Addr) (c2 : Nat) (us : List (Value × List (Int × Int))), us.map Prod.snd = G.ps ∧ us.length = pl ∧ Made W gb w' (.slice a1 m c1) (.slice a2 pl c2) (.slice a1 m c1) zs (.slice a2 pl c2) (us.map Prod.fst) us ∧ a' = (((((((act.put (some 11) (.slice a m c)).put (some 12) (.slice a1 m c1)).put (some 13) (.pointer (some ⟨w.heap.size, 1, none⟩))).put (some 14) (.slice pa pl pc)).put (some 15) (.slice a2 pl c2)).put (some 16) (.agg #[.slice a1 m c1, .slice a2 pl c2])).put (some 6) (.pointer (some ⟨gb, 0, none⟩)))) ?_ ?_
    · refine keep_start (fun w' => w'.cell? ⟨w.heap.size, 1, none⟩ = some (.slice pa pl pc)) [] (by kernel_rfl) ?_
      rw [← HWd.out]
      have hS0 := (((Below.refl W.heap.size W)).cell (p := ⟨w.heap.size, 1, none⟩) (by simp; omega)).trans z0
      (refine keep_pure 0 (v := ?_) rfl (by kernel_rfl) (by kernel_rfl) (by kernel_rfl) (by kernel_rfl) (fun _ _ _ h => h) (Or.inl ⟨by rfl, ?_⟩) (.inr (by exact hS0)) ?_; rotate_left 1; focus (intro _; go_simp; (try go_ints); try (with_reducible rfl)); (try simp only [Act.put, List.setIfInBounds_toArray, List.set_cons_zero, List.set_cons_succ]))
      (refine keep_pure 2 (v := ?_) rfl (by kernel_rfl) (by kernel_rfl) (by kernel_rfl) (by kernel_rfl) (fun _ _ _ h => h) (Or.inl ⟨by rfl, ?_⟩) (.inr (by exact hS0)) ?_; rotate_left 1; focus (intro _; go_simp; (try go_ints); try (with_reducible rfl)); (try simp only [Act.put, List.setIfInBounds_toArray, List.set_cons_zero, List.set_cons_succ]))
      (refine keep_load 3 (v := ?_) rfl (by kernel_rfl) (by kernel_rfl) (by kernel_rfl) (by kernel_rfl) (by kernel_rfl) (by kernel_rfl) (fun _ _ _ h => h) (Or.inl ⟨by rfl, ?_⟩) (by exact hS0) ?_; rotate_left 1; focus (intro _ hSw; (first | (obtain ⟨_, _, _, _, _⟩ := hSw) | (obtain ⟨_, _, _, _⟩ := hSw) | (obtain ⟨_, _, _⟩ := hSw) | (obtain ⟨_, _⟩ := hSw) | skip); go_simp; (try go_ints); try (with_reducible rfl)); (try simp only [Act.put, List.setIfInBounds_toArray, List.set_cons_zero, List.set_cons_succ]))
      (refine keep_two 1 6 (by kernel_rfl) rfl rfl ?_ ?_)
      · skip
        intro K hK
        go_simp
        refine (cloneI_any a c zs m Hil.out _ (HI.out.below (Below.refl W.heap.size W)) (by omega)).mono ?_
        rintro e wA ⟨⟨a1, c1, rfl, oA⟩, hbA⟩
        have hWA := ((Below.refl W.heap.size W)).trans (hbA.mono ((Below.refl W.heap.size W)).size)
        have hSA := ((hWA).cell (p := ⟨w.heap.size, 1, none⟩) (by simp; omega)).trans z0
        have oA2 : (idsR (.slice a1 m c1) zs).Held W.heap.size wA := by rw [Hil.out] at oA ⊢; exact oA
        refine hK _ _ (fun _ => (by exact hSA)) ?_
        clear hK K oA
        (try simp only [Act.put, List.setIfInBounds_toArray, List.set_cons_zero, List.set_cons_succ])
        (refine keep_two 4 6 (by kernel_rfl) rfl rfl ?_ ?_)
        · skip
          intro K hK
          go_simp
          refine (copies_any pa pl pc G.ps _ (HP.out.below hWA) Hpl.out hpl HRw.out).mono ?_
          rintro e wB ⟨⟨a2, c2, us, rfl, hul, hus, oB⟩, hbB⟩
          have hWB := (hWA).trans (hbB.mono (hWA).size)
          have hSB := ((hWB).cell (p := ⟨w.heap.size, 1, none⟩) (by simp; omega)).trans z0
          refine hK _ _ (fun _ => (by exact hSB)) ?_
          clear hK K
          (try simp only [Act.put, List.setIfInBounds_toArray, List.set_cons_zero, List.set_cons_succ])
          (refine keep_pure 5 (v := ?_) rfl (by kernel_rfl) (by kernel_rfl) (by kernel_rfl) (by kernel_rfl) (fun _ _ _ h => h) (Or.inl ⟨by rfl, ?_⟩) (.inr (by exact hSB)) ?_; rotate_left 1; focus (intro _; go_simp; (try go_ints); try (with_reducible rfl)); (try simp only [Act.put, List.setIfInBounds_toArray, List.set_cons_zero, List.set_cons_succ]))
          (refine keep_one 6 (by kernel_rfl) rfl ?_)
          intro K hK
          go_simp
          obtain ⟨wG, hwG⟩ : ∃ x, x = wB.alloc (.cells #[.slice none 0 0, .slice none 0 0] 25) := ⟨_, rfl⟩
          have hbG : Below wB.heap.size wB wG := by rw [hwG]; exact (Below.refl _ _).alloc (Nat.le_refl _) _
          have g0 : wG.cell? ⟨wB.heap.size, 0, none⟩ = some (.slice none 0 0) := by rw [hwG]; simp [cell_push0]
          have g1 : wG.cell? ⟨wB.heap.size, 1, none⟩ = some (.slice none 0 0) := by rw [hwG]; simp [cell_push0]
          have k0 : wG.frozen? ⟨wB.heap.size, 0, none⟩ = false := by rw [hwG]; simp [free_push0]
          have k1 : wG.frozen? ⟨wB.heap.size, 1, none⟩ = false := by rw [hwG]; simp [free_push0]
          have lG : wG.heap.size = wB.heap.size + 1 := by rw [hwG]; simp
          rw [← hwG]
          clear hwG
          have hWG := (hWB).trans (hbG.mono (hWB).size)
          have hSG := ((hWG).cell (p := ⟨w.heap.size, 1, none⟩) (by simp; omega)).trans z0
          refine hK _ _ (fun _ => (by exact hSG)) ?_
          clear hK K
          (try simp only [Act.put, List.setIfInBounds_toArray, List.set_cons_zero, List.set_cons_succ])
          have sA := hbA.size
          have sB := hbB.size
          have sG := hbG.size
          have tA := hWA.size
          have tB := hWB.size
          have tG := hWG.size
          have hM := made_two (W := W) (gb := wB.heap.size) (x1 := .slice a1 m c1) (x2 := .slice a2 pl c2) oA2 (by omega) (hbB.trans (hbG.mono hbB.size)) oB (by omega) (hbG) (hWG) (by omega) (by omega) (Rw.notAt oA2 (by omega)) (oB.notAt (by omega)) g0 g1 k0 k1
          have hWst : Below W.heap.size W ((wG.setCell ⟨wB.heap.size, 0, none⟩ (.slice a1 m c1)).setCell ⟨wB.heap.size, 1, none⟩ (.slice a2 pl c2)) := ((hWG).setCell (tB) _).setCell (tB) _
          (refine keep_one 7 (by kernel_rfl) rfl ?_)
          intro K hK
          go_simp
          refine hK _ _ (fun _ => (by exact (((hWst).cell (p := ⟨w.heap.size, 1, none⟩) (by simp; omega)).trans z0))) ?_
          clear hK K
          (try simp only [Act.put, List.setIfInBounds_toArray, List.set_cons_zero, List.set_cons_succ])
          (refine keep_done (by kernel_rfl) ?_)
          exact ⟨_, a1, c1, a2, c2, us, hus, hul, hM, rfl⟩
        · skip
          intro K hK
          go_simp
          obtain ⟨wG, hwG⟩ : ∃ x, x = wA.alloc (.cells #[.slice none 0 0, .slice none 0 0] 25) := ⟨_, rfl⟩
          have hbG : Below wA.heap.size wA wG := by rw [hwG]; exact (Below.refl _ _).alloc (Nat.le_refl _) _
          have g0 : wG.cell? ⟨wA.heap.size, 0, none⟩ = some (.slice none 0 0) := by rw [hwG]; simp [cell_push0]
          have g1 : wG.cell? ⟨wA.heap.size, 1, none⟩ = some (.slice none 0 0) := by rw [hwG]; simp [cell_push0]
          have k0 : wG.frozen? ⟨wA.heap.size, 0, none⟩ = false := by rw [hwG]; simp [free_push0]
          have k1 : wG.frozen? ⟨wA.heap.size, 1, none⟩ = false := by rw [hwG]; simp [free_push0]
          have lG : wG.heap.size = wA.heap.size + 1 := by rw [hwG]; simp
          rw [← hwG]
          clear hwG
          have hWG := (hWA).trans (hbG.mono (hWA).size)
          have hSG := ((hWG).cell (p := ⟨w.heap.size, 1, none⟩) (by simp; omega)).trans z0
          refine hK _ _ (fun _ => (by exact hSG)) ?_
          clear hK K
          (try simp only [Act.put, List.setIfInBounds_toArray, List.set_cons_zero, List.set_cons_succ])
          (refine keep_one 4 (by kernel_rfl) rfl ?_)
          intro K hK
          go_simp
          refine (copies_any pa pl pc G.ps _ (HP.out.below hWG) Hpl.out hpl HRw.out).mono ?_
          rintro e wB ⟨⟨a2, c2, us, rfl, hul, hus, oB⟩, hbB⟩
          have hWB := (hWG).trans (hbB.mono (hWG).size)
          have hSB := ((hWB).cell (p := ⟨w.heap.size, 1, none⟩) (by simp; omega)).trans z0
          refine hK _ _ (fun _ => (by exact hSB)) ?_
          clear hK K
          (try simp only [Act.put, List.setIfInBounds_toArray, List.set_cons_zero, List.set_cons_succ])
          (refine keep_pure 5 (v := ?_) rfl (by kernel_rfl) (by kernel_rfl) (by kernel_rfl) (by kernel_rfl) (fun _ _ _ h => h) (Or.inl ⟨by rfl, ?_⟩) (.inr (by exact hSB)) ?_; rotate_left 1; focus (intro _; go_simp; (try go_ints); try (with_reducible rfl)); (try simp only [Act.put, List.setIfInBounds_toArray, List.set_cons_zero, List.set_cons_succ]))
          have hGl : Below wG.heap.size wG wB := hbB
          have e0 := (hGl.cell (p := ⟨wA.heap.size, 0, none⟩) (by simp; omega)).trans g0
          have e1 := (hGl.cell (p := ⟨wA.heap.size, 1, none⟩) (by simp; omega)).trans g1
          have e2 := (hGl.frozen (p := ⟨wA.heap.size, 0, none⟩) (by simp; omega)).trans k0
          have e3 := (hGl.frozen (p := ⟨wA.heap.size, 1, none⟩) (by simp; omega)).trans k1
          have sA := hbA.size
          have sB := hbB.size
          have sG := hbG.size
          have tA := hWA.size
          have tB := hWB.size
          have tG := hWG.size
          have hM := made_two (W := W) (gb := wA.heap.size) (x1 := .slice a1 m c1) (x2 := .slice a2 pl c2) oA2 (by omega) (hbG.trans (hbB.mono hbG.size)) oB (by omega) (Below.refl _ _) (hWB) (by omega) (by omega) (Rw.notAt oA2 (by omega)) (oB.notAt (by omega)) e0 e1 e2 e3
          have hWst : Below W.heap.size W ((wB.setCell ⟨wA.heap.size, 0, none⟩ (.slice a1 m c1)).setCell ⟨wA.heap.size, 1, none⟩ (.slice a2 pl c2)) := ((hWB).setCell (tA) _).setCell (tA) _
          (refine keep_one 7 (by kernel_rfl) rfl ?_)
          intro K hK
          go_simp
          refine hK _ _ (fun _ => (by exact (((hWst).cell (p := ⟨w.heap.size, 1, none⟩) (by simp; omega)).trans z0))) ?_
          clear hK K
          (try simp only [Act.put, List.setIfInBounds_toArray, List.set_cons_zero, List.set_cons_succ])
          (refine keep_done (by kernel_rfl) ?_)
          exact ⟨_, a1, c1, a2, c2, us, hus, hul, hM, rfl⟩
      · skip
        intro K hK
        go_simp
        obtain ⟨wG, hwG⟩ : ∃ x, x = W.alloc (.cells #[.slice none 0 0, .slice none 0 0] 25) := ⟨_, rfl⟩
        have hbG : Below W.heap.size W wG := by rw [hwG]; exact (Below.refl _ _).alloc (Nat.le_refl _) _
        have g0 : wG.cell? ⟨W.heap.size, 0, none⟩ = some (.slice none 0 0) := by rw [hwG]; simp [cell_push0]
        have g1 : wG.cell? ⟨W.heap.size, 1, none⟩ = some (.slice none 0 0) := by rw [hwG]; simp [cell_push0]
        have k0 : wG.frozen? ⟨W.heap.size, 0, none⟩ = false := by rw [hwG]; simp [free_push0]
        have k1 : wG.frozen? ⟨W.heap.size, 1, none⟩ = false := by rw [hwG]; simp [free_push0]
        have lG : wG.heap.size = W.heap.size + 1 := by rw [hwG]; simp
        rw [← hwG]
        clear hwG
        have hWG := ((Below.refl W.heap.size W)).trans (hbG.mono ((Below.refl W.heap.size W)).size)
        have hSG := ((hWG).cell (p := ⟨w.heap.size, 1, none⟩) (by simp; omega)).trans z0
        refine hK _ _ (fun _ => (by exact hSG)) ?_
        clear hK K
        (try simp only [Act.put, List.setIfInBounds_toArray, List.set_cons_zero, List.set_cons_succ])
        (refine keep_one 1 (by kernel_rfl) rfl ?_)
        intro K hK
        go_simp
        refine (cloneI_any a c zs m Hil.out _ (HI.out.below hWG) (by omega)).mono ?_
        rintro e wA ⟨⟨a1, c1, rfl, oA⟩, hbA⟩
        have hWA := (hWG).trans (hbA.mono (hWG).size)
        have hSA := ((hWA).cell (p := ⟨w.heap.size, 1, none⟩) (by simp; omega)).trans z0
        have oA2 : (idsR (.slice a1 m c1) zs).Held wG.heap.size wA := by rw [Hil.out] at oA ⊢; exact oA
        refine hK _ _ (fun _ => (by exact hSA)) ?_
        clear hK K oA
        (try simp only [Act.put, List.setIfInBounds_toArray, List.set_cons_zero, List.set_cons_succ])
        (refine keep_one 4 (by kernel_rfl) rfl ?_)
        intro K hK
        go_simp
        refine (copies_any pa pl pc G.ps _ (HP.out.below hWA) Hpl.out hpl HRw.out).mono ?_
        rintro e wB ⟨⟨a2, c2, us, rfl, hul, hus, oB⟩, hbB⟩
        have hWB := (hWA).trans (hbB.mono (hWA).size)
        have hSB := ((hWB).cell (p := ⟨w.heap.size, 1, none⟩) (by simp; omega)).trans z0
        refine hK _ _ (fun _ => (by exact hSB)) ?_
        clear hK K
        (try simp only [Act.put, List.setIfInBounds_toArray, List.set_cons_zero, List.set_cons_succ])
        (refine keep_pure 5 (v := ?_) rfl (by kernel_rfl) (by kernel_rfl) (by kernel_rfl) (by kernel_rfl) (fun _ _ _ h => h) (Or.inl ⟨by rfl, ?_⟩) (.inr (by exact hSB)) ?_; rotate_left 1; focus (intro _; go_simp; (try go_ints); try (with_reducible rfl)); (try simp only [Act.put, List.setIfInBounds_toArray, List.set_cons_zero, List.set_cons_succ]))
        have hGl : Below wG.heap.size wG wB := (hbA.mono (Nat.le_refl _)).trans (hbB.mono hbA.size)
        have e0 := (hGl.cell (p := ⟨W.heap.size, 0, none⟩) (by simp; omega)).trans g0
        have e1 := (hGl.cell (p := ⟨W.heap.size, 1, none⟩) (by simp; omega)).trans g1
        have e2 := (hGl.frozen (p := ⟨W.heap.size, 0, none⟩) (by simp; omega)).trans k0
        have e3 := (hGl.frozen (p := ⟨W.heap.size, 1, none⟩) (by simp; omega)).trans k1
        have sA := hbA.size
        have sB := hbB.size
        have sG := hbG.size
        have tA := hWA.size
        have tB := hWB.size
        have tG := hWG.size
        have hM := made_two (W := W) (gb := W.heap.size) (x1 := .slice a1 m c1) (x2 := .slice a2 pl c2) oA2 (by omega) (hbB) oB (by omega) (Below.refl _ _) (hWB) (by omega) (by omega) (Rw.notAt oA2 (by omega)) (oB.notAt (by omega)) e0 e1 e2 e3
        have hWst : Below W.heap.size W ((wB.setCell ⟨W.heap.size, 0, none⟩ (.slice a1 m c1)).setCell ⟨W.heap.size, 1, none⟩ (.slice a2 pl c2)) := ((hWB).setCell (Nat.le_refl _) _).setCell (Nat.le_refl _) _
        (refine keep_one 7 (by kernel_rfl) rfl ?_)
        intro K hK
        go_simp
        refine hK _ _ (fun _ => (by exact (((hWst).cell (p := ⟨w.heap.size, 1, none⟩) (by simp; omega)).trans z0))) ?_
        clear hK K
        (try simp only [Act.put, List.setIfInBounds_toArray, List.set_cons_zero, List.set_cons_succ])
        (refine keep_done (by kernel_rfl) ?_)
        exact ⟨_, a1, c1, a2, c2, us, hus, hul, hM, rfl⟩
    · rintro a' w' ⟨gb, a1, c1, a2, c2, us, hus, hul, hM, rfl⟩
      (try simp only [Act.put, List.setIfInBounds_toArray, List.set_cons_zero, List.set_cons_succ])
      have HFn : Hid (FitG ⟨zs, G.ps⟩) := Lib.hid ⟨HZ.out.fits, HFit.out⟩
      have hGN : GraphAt w' a1 m a2 pl ⟨zs, G.ps⟩ := hM.graphIs (G := ⟨zs, G.ps⟩) Hm.out HPG.out hus HFn.out
      have c0' := hM.c0
      have c1' := hM.c1
      have hbw' := hbW.trans (hM.fr.mono (by simpa using hsW))
      have r0 := boxedB hbw' 0
      have r1 := boxedB hbw' 1
      have q0 := free_boxB hbw' 0
      have q1 := free_boxB hbw' 1
      have HMM := Lib.hid hM
      have HUS := Lib.hid hus
      cases hv2 : validB ⟨zs, G.ps⟩ with
      | false =>
        have HO : Hid (identO G zs = .inl 2) := Lib.hid (by unfold identO; rw [if_pos hv, hv2]; rfl)
        clear hM hus
        go_wp2_with (go_at_call 18; go_must (refine (valid_any _ _ _ _ _ _ ⟨zs, G.ps⟩ _ hGN).mono ?_; rintro e w2 ⟨rfl, hb2⟩; rw [hv2]); have hbw2 := hbw'.trans (hb2.mono (by simpa using hbw'.size)); have r0 := boxedB hbw2 0; have r1 := boxedB hbw2 1; have q0 := free_boxB hbw2 0; have q1 := free_boxB hbw2 1)
        refine bodyPost_ret (v := .tuple #[.agg #[.slice none 0 0, .slice none 0 0], .int .i64 2]) (by rw [results_c1 (fn := Try.f9) rfl]; go_simp) rfl ?_
        rw [HO.out]
        exact idE_err 2 hbw2
      | true =>
        have HO : Hid (identO G zs = .inr ⟨zs, G.ps⟩) := Lib.hid (by unfold identO; rw [if_pos hv, if_pos hv2])
        clear hM hus
        go_wp2_with (go_at_call 18; go_must (refine (valid_any _ _ _ _ _ _ ⟨zs, G.ps⟩ _ hGN).mono ?_; rintro e w2 ⟨rfl, hb2⟩; rw [hv2]); have hbw2 := hbw'.trans (hb2.mono (by simpa using hbw'.size)); have r0 := boxedB hbw2 0; have r1 := boxedB hbw2 1; have q0 := free_boxB hbw2 0; have q1 := free_boxB hbw2 1; have hM2 := HMM.out.below hb2; have c0' := hM2.c0; have c1' := hM2.c1; have HM2 := Lib.hid hM2; clear hM2)
        refine bodyPost_ret (v := .tuple #[.agg #[.slice a1 m c1, .slice a2 pl c2], .int .i64 0]) (by rw [results_c1 (fn := Try.f9) rfl]; go_simp) rfl ?_
        rw [HO.out]
        refine own_box2 ⟨rfl, us, ?_, HUS.out.symm, HFn.out⟩ hbw2
        have h := HM2.out.rows.mono (show w.heap.size + 2 ≤ W.heap.size from hsW)
        exact h
end Go.Proofs.Ytfbbkiibhdgojaa
