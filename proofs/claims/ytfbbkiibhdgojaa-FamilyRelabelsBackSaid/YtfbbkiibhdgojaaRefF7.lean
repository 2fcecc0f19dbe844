/- What Copy of the specification of layer 3 answers. -/
import Derived.Test.YtfbbkiibhdgojaaCopy0
namespace Go.Proofs.Ytfbbkiibhdgojaa
open Go.RowKit

theorem below_drew (B : Nat) (w : World) : Below B w w.drew := ⟨rfl, rfl, rfl, Nat.le_refl _, fun _ _ => rfl⟩
theorem take_row {ps : List (List (Int × Int))} {k : Nat} (h : k < ps.length) : ps.take (k + 1) = ps.take k ++ [rowA ps k] := by
  rw [List.take_succ_eq_append_getElem h]
  simp [rowA, List.getD, List.getElem?_eq_getElem h]
set_option linter.unusedSimpArgs false in
set_option maxHeartbeats 4000000 in
set_option maxRecDepth 100000 in
theorem copy_any (ia pa : Option Addr) (il ic pl pc : Nat) (G : Gr) (w : World) (hG : GraphAt w ia il pa pl G) (hi : il ≤ 1000) (hp : pl ≤ 1000) (hr : ∀ v, v < pl → (rowA G.ps v).length ≤ 1000) :
    Calls Try.prog 23 #[.agg #[.slice ia il ic, .slice pa pl pc]] w fun e w' => (∃ (a1 : Option Addr) (c1 : Nat) (a2 : Option Addr) (c2 : Nat) (us : List (Value × List (Int × Int))), e = .returned (.agg #[.slice a1 il c1, .slice a2 pl c2]) ∧ us.map Prod.snd = G.ps ∧
      Apart w.heap.size w' (idsR (.slice a1 il c1) G.ids :: hdrR (.slice a2 pl c2) (us.map Prod.fst) :: us.map lnkR)) ∧ Below w.heap.size w w' := by
  have HG := Lib.hid hG
  have HI := Lib.hid hG.il
  have HP := Lib.hid hG.pl
  have HR := Lib.hid hr
  clear hG hr
  obtain ⟨W, hW⟩ : ∃ W, W = (w.alloc (.cells #[.slice ia il ic, .slice pa pl pc] 25)).alloc (.cells #[.slice none 0 0, .slice none 0 0] 25) := ⟨_, rfl⟩
  have hbel0 : Below w.heap.size w W := by rw [hW]; exact ((Below.refl _ _).alloc (Nat.le_refl _) _).alloc (by simp) _
  have hWs : W.heap.size = w.heap.size + 2 := by rw [hW]; simp
  have HGW := Lib.hid (HG.out.below hbel0)
  have HB := Lib.hid hbel0
  have HBX : Hid (W.cell? ⟨w.heap.size, 1, none⟩ = some (.slice pa pl pc)) := Lib.hid (by rw [hW]; simp [cell_push0])
  have HR0 : Hid (W.cell? ⟨w.heap.size + 1, 0, none⟩ = some (.slice none 0 0)) := Lib.hid (by rw [hW]; simp [cell_push0])
  have HR1 : Hid (W.cell? ⟨w.heap.size + 1, 1, none⟩ = some (.slice none 0 0)) := Lib.hid (by rw [hW]; simp [cell_push0])
  have HF0 : Hid (W.frozen? ⟨w.heap.size + 1, 0, none⟩ = false) := Lib.hid (by rw [hW]; simp [free_push0])
  have HF1 : Hid (W.frozen? ⟨w.heap.size + 1, 1, none⟩ = false) := Lib.hid (by rw [hW]; simp [free_push0])
  have HW := Lib.hid hW
  have HIn : Hid (IntsAt ((w.alloc (.cells #[.slice ia il ic, .slice pa pl pc] 25)).alloc (.cells #[.slice none 0 0, .slice none 0 0] 25)) ia G.ids) := Lib.hid (by rw [← hW]; exact HGW.out.ids)
  have hgi : G.ids.length ≤ 1000000 := by rw [← HI.out]; omega
  clear hbel0 hW
  go_enter Try.func23, Try.ntmps23
  go_wp2_with (at_builtin; refine wpList_copyI rfl _ (.tmp 6) rfl ia ic G.ids il HI.out rfl rfl HIn.out hgi ?_; intro a1 q1 w1 hown hb1)
  rw [← HW.out] at hown hb1
  have hs1 := hb1.size
  have hM0 : Made W w1.heap.size (w1.alloc (.cells #[.slice a1 il q1, .slice none 0 0] 25)) (.slice a1 il q1) (.slice none 0 0) (.slice a1 il q1) G.ids (.slice none 0 0) (([] : List (Value × List (Int × Int))).map Prod.fst) [] := by
    refine Made.box ⟨fun r hr => ?_, List.pairwise_cons.2 ⟨fun x hx => by
      obtain rfl : x = _ := by simpa using hx
      exact own_ne, by simp⟩⟩ hb1
    rcases List.mem_cons.1 hr with rfl | hr
    · exact hown
    · obtain rfl : r = _ := by simpa using hr
      exact World.ownsRow_nil _ _ _ _
  clear hown hb1
  have HM0 := Lib.hid hM0
  clear hM0
  obtain ⟨gb, hgb⟩ : ∃ gb, gb = w1.heap.size := ⟨_, rfl⟩
  rw [← hgb] at HM0 hs1
  rw [← hgb]
  clear hgb
  go_loopw [4] (fun t wr => ∃ (k : Nat) (v2 : Value) (us : List (Value × List (Int × Int))), t = .int .i64 k ∧ k ≤ pl ∧ us.length = k ∧ us.map Prod.snd = G.ps.take k ∧ Made W gb wr (.slice a1 il q1) v2 (.slice a1 il q1) G.ids v2 (us.map Prod.fst) us) (fun t _ => pl - (intOf t).toNat)
  case atStart => exact ⟨0, _, [], rfl, Nat.zero_le _, rfl, rfl, HM0.out⟩
  case round =>
    clear HM0
    obtain ⟨k, v2, us, rfl, hk, hul, hus, hM⟩ := hrel
    have hlh : (us.map Prod.fst).length = k := by simp [hul]
    have hh := hM.hdr
    rw [hlh] at hh
    obtain ⟨a2, q2, rfl, _, _⟩ := own_slice hh
    have c0 := hM.c0
    have c1 := hM.c1
    have hsz := hM.fr.size
    have hbx := (hM.fr.cell (p := ⟨w.heap.size, 1, none⟩) (by simp; omega)).trans HBX.out
    have HUS := Lib.hid hus
    have HUL := Lib.hid hul
    have HLH := Lib.hid hlh
    have HM := Lib.hid hM
    have hGr := HGW.out.below hM.fr
    clear hus hul hlh hM hh
    by_cases hlt : k < pl
    · obtain ⟨pb, po, e, hpb, hrow⟩ := HGW.out.ports.row (by rw [← HP.out]; omega)
      subst e
      obtain ⟨la, lc, hcell, hL⟩ := hrow k (by rw [← HP.out]; exact hlt)
      have HS : Hid (∀ X, Below W.heap.size W X → X.cell? ⟨w.heap.size, 1, none⟩ = some (.slice (some ⟨pb, po, none⟩) pl pc) ∧ X.cell? ⟨pb, po + k, none⟩ = some (.slice la (rowA G.ps k).length lc)) := Lib.hid (fun X hX => ⟨(hX.cell (p := ⟨w.heap.size, 1, none⟩) (by simp; omega)).trans HBX.out, (hX.cell (p := ⟨pb, po + k, none⟩) hpb).trans hcell⟩)
      have HL := Lib.hid (((hL.below HM.out.fr)).below (below_drew _ wr))
      have hrl := HR.out k hlt
      clear hrow hcell hL hGr hpb
      go_wp2
      refine keep_start (fun w' => w'.cell? ⟨gb, 1, none⟩ = some (.slice a2 k q2) ∧ w'.cell? ⟨w.heap.size, 1, none⟩ = some (.slice (some ⟨pb, po, none⟩) pl pc) ∧ w'.cell? ⟨pb, po + k, none⟩ = some (.slice la (rowA G.ps k).length lc)) [11] (by kernel_rfl) ?_
      (refine keep_pure 0 (v := ?_) rfl (by kernel_rfl) (by kernel_rfl) (by kernel_rfl) (by kernel_rfl) (fun _ _ _ h => h) (Or.inl ⟨by rfl, ?_⟩) (.inr (by exact ⟨HM.out.drew.c1, HS.out _ HM.out.drew.fr⟩)) ?_; rotate_left 1; focus (intro _; go_simp; (try go_ints); try (with_reducible rfl)); (try simp only [Act.put, List.setIfInBounds_toArray, List.set_cons_zero, List.set_cons_succ]))
      (refine keep_pure 2 (v := ?_) rfl (by kernel_rfl) (by kernel_rfl) (by kernel_rfl) (by kernel_rfl) (fun _ _ _ h => h) (Or.inl ⟨by rfl, ?_⟩) (.inr (by exact ⟨HM.out.drew.c1, HS.out _ HM.out.drew.fr⟩)) ?_; rotate_left 1; focus (intro _; go_simp; (try go_ints); try (with_reducible rfl)); (try simp only [Act.put, List.setIfInBounds_toArray, List.set_cons_zero, List.set_cons_succ]))
      (refine keep_pure 4 (v := ?_) rfl (by kernel_rfl) (by kernel_rfl) (by kernel_rfl) (by kernel_rfl) (fun _ _ _ h => h) (Or.inl ⟨by rfl, ?_⟩) (.inr (by exact ⟨HM.out.drew.c1, HS.out _ HM.out.drew.fr⟩)) ?_; rotate_left 1; focus (intro _; go_simp; (try go_ints); try (with_reducible rfl)); (try simp only [Act.put, List.setIfInBounds_toArray, List.set_cons_zero, List.set_cons_succ]))
      (refine keep_load 1 (v := ?_) rfl (by kernel_rfl) (by kernel_rfl) (by kernel_rfl) (by kernel_rfl) (by kernel_rfl) (by kernel_rfl) (fun _ _ _ h => h) (Or.inl ⟨by rfl, ?_⟩) (by exact ⟨HM.out.drew.c1, HS.out _ HM.out.drew.fr⟩) ?_; rotate_left 1; focus (intro _ hSw; (first | (obtain ⟨_, _, _, _, _⟩ := hSw) | (obtain ⟨_, _, _, _⟩ := hSw) | (obtain ⟨_, _, _⟩ := hSw) | (obtain ⟨_, _⟩ := hSw) | skip); go_simp; (try go_ints); try (with_reducible rfl)); (try simp only [Act.put, List.setIfInBounds_toArray, List.set_cons_zero, List.set_cons_succ]))
      (refine keep_load 3 (v := ?_) rfl (by kernel_rfl) (by kernel_rfl) (by kernel_rfl) (by kernel_rfl) (by kernel_rfl) (by kernel_rfl) (fun _ _ _ h => h) (Or.inl ⟨by rfl, ?_⟩) (by exact ⟨HM.out.drew.c1, HS.out _ HM.out.drew.fr⟩) ?_; rotate_left 1; focus (intro _ hSw; (first | (obtain ⟨_, _, _, _, _⟩ := hSw) | (obtain ⟨_, _, _, _⟩ := hSw) | (obtain ⟨_, _, _⟩ := hSw) | (obtain ⟨_, _⟩ := hSw) | skip); go_simp; (try go_ints); try (with_reducible rfl)); (try simp only [Act.put, List.setIfInBounds_toArray, List.set_cons_zero, List.set_cons_succ]))
      (refine keep_pure 5 (v := ?_) rfl (by kernel_rfl) (by kernel_rfl) (by kernel_rfl) (by kernel_rfl) (fun _ _ _ h => h) (Or.inl ⟨by rfl, ?_⟩) (.inr (by exact ⟨HM.out.drew.c1, HS.out _ HM.out.drew.fr⟩)) ?_; rotate_left 1; focus (intro _; go_simp; (try go_ints); try (with_reducible rfl)); (try simp only [Act.put, List.setIfInBounds_toArray, List.set_cons_zero, List.set_cons_succ]))
      (refine keep_load 6 (v := ?_) rfl (by kernel_rfl) (by kernel_rfl) (by kernel_rfl) (by kernel_rfl) (by kernel_rfl) (by kernel_rfl) (fun _ _ _ h => h) (Or.inl ⟨by rfl, ?_⟩) (by exact ⟨HM.out.drew.c1, HS.out _ HM.out.drew.fr⟩) ?_; rotate_left 1; focus (intro _ hSw; (first | (obtain ⟨_, _, _, _, _⟩ := hSw) | (obtain ⟨_, _, _, _⟩ := hSw) | (obtain ⟨_, _, _⟩ := hSw) | (obtain ⟨_, _⟩ := hSw) | skip); go_simp; (try go_ints); try (with_reducible rfl)); (try simp only [Act.put, List.setIfInBounds_toArray, List.set_cons_zero, List.set_cons_succ]))
      (refine keep_one 7 (by kernel_rfl) rfl ?_)
      intro K hK
      (refine step_copyL rfl _ (.tmp 22) rfl la lc (rowA G.ps k) (by rfl) (by rfl) HL.out (by omega) ?_)
      intro a3 q3 w3 hown3 hb3
      have HM3 := Lib.hid (HM.out.drew.addNew hb3 hown3)
      clear hown3 hb3
      refine hK _ _ (fun h => (by exact ⟨HM3.out.c1, HS.out _ HM3.out.fr⟩)) ?_
      clear hK K
      (try simp only [Act.put, List.setIfInBounds_toArray, List.set_cons_zero, List.set_cons_succ])
      (refine keep_one 8 (by kernel_rfl) rfl ?_)
      intro K hK
      go_simp
      refine hK _ _ (fun h => (by exact ⟨(HM3.out.alloc _).c1, HS.out _ (HM3.out.alloc _).fr⟩)) ?_
      clear hK K
      (try simp only [Act.put, List.setIfInBounds_toArray, List.set_cons_zero, List.set_cons_succ])
      (refine keep_one 9 (by kernel_rfl) rfl ?_)
      intro K hK
      (refine step_hdr rfl (.tmp 17) (.tmp 24) rfl w3.heap.size (.slice a3 (rowA G.ps k).length q3) (by rfl) (by rfl) (HM3.out.alloc (.cells #[.slice a3 (rowA G.ps k).length q3] 38)) (by simp [cell_push0]) rfl (by rw [HLH.out]; omega) ?_)
      intro g cap w4 hM4
      rw [HLH.out] at hM4 ⊢
      have z0 := hM4.c1
      have z1 := hM4.f1
      have HM4 := Lib.hid hM4
      clear hM4
      refine hK _ _ (fun h => (by exact ⟨HM4.out.c1, HS.out _ HM4.out.fr⟩)) ?_
      clear hK K
      (try simp only [Act.put, List.setIfInBounds_toArray, List.set_cons_zero, List.set_cons_succ])
      (refine keep_pure 10 (v := ?_) rfl (by kernel_rfl) (by kernel_rfl) (by kernel_rfl) (by kernel_rfl) (fun _ _ _ h => h) (Or.inl ⟨by rfl, ?_⟩) (.inr (by exact ⟨HM4.out.c1, HS.out _ HM4.out.fr⟩)) ?_; rotate_left 1; focus (intro _; go_simp; (try go_ints); try (with_reducible rfl)); (try simp only [Act.put, List.setIfInBounds_toArray, List.set_cons_zero, List.set_cons_succ]))
      (refine keep_one 11 (by kernel_rfl) rfl ?_)
      intro K hK
      go_simp
      refine hK _ _ (fun h => absurd h (calm_not (by kernel_rfl))) ?_
      clear hK K
      (try simp only [Act.put, List.setIfInBounds_toArray, List.set_cons_zero, List.set_cons_succ])
      (refine keep_done (by kernel_rfl) ?_)
      have hM5 := HM4.out.put1 (.slice (some ⟨g, 0, none⟩) (k + 1) cap)
      have hE : us.map Prod.fst ++ [Value.slice a3 (rowA G.ps k).length q3] = (us ++ [(Value.slice a3 (rowA G.ps k).length q3, rowA G.ps k)]).map Prod.fst := by simp
      rw [hE] at hM5
      have HM5 := Lib.hid hM5
      have HU5 : Hid ((us ++ [(Value.slice a3 (rowA G.ps k).length q3, rowA G.ps k)]).map Prod.snd = G.ps.take (k + 1)) := Lib.hid (by rw [take_row (by rw [← HP.out]; exact hlt), List.map_append, HUS.out]; rfl)
      clear hM5 hE z0 z1
      go_wp2
      go_roundw
      case rel => exact ⟨k + 1, _, _, by go_num, hlt, by simp [HUL.out], HU5.out, HM5.out⟩
      case measure => simp [intOf]; omega
    · obtain rfl : k = pl := by omega
      have r0 := (HM.out.fr.cell (p := ⟨w.heap.size + 1, 0, none⟩) (by simp; omega)).trans HR0.out
      have r1 := (HM.out.fr.cell (p := ⟨w.heap.size + 1, 1, none⟩) (by simp; omega)).trans HR1.out
      have q4 := (HM.out.fr.frozen (p := ⟨w.heap.size + 1, 0, none⟩) (by simp; omega)).trans HF0.out
      have q5 := (HM.out.fr.frozen (p := ⟨w.heap.size + 1, 1, none⟩) (by simp; omega)).trans HF1.out
      have HUS2 : Hid (us.map Prod.snd = G.ps) := Lib.hid (by rw [HUS.out, HP.out, List.take_length])
      clear hGr
      go_wp2
      refine bodyPost_ret (v := .agg #[.slice a1 il q1, .slice a2 k q2]) (by rw [results_c (fn := Try.f23) rfl]; go_simp) rfl ?_
      exact ⟨⟨a1, q1, a2, q2, us, rfl, HUS2.out, (HM.out.done (by omega) _ _).mono (by omega)⟩, HM.out.back HB.out (by omega) _ _⟩
end Go.Proofs.Ytfbbkiibhdgojaa
