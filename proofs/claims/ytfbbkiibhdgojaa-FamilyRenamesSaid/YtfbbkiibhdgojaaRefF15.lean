/- What Relabel of the specification of layer 3 answers. -/
import Derived.Test.YtfbbkiibhdgojaaRelMath
import Derived.Test.YtfbbkiibhdgojaaRefF8
import Derived.Test.YtfbbkiibhdgojaaPlain
namespace Go.Proofs.Ytfbbkiibhdgojaa
open Go.RowKit

set_option linter.unusedSimpArgs false in
set_option maxHeartbeats 8000000 in
set_option maxRecDepth 100000 in
theorem relabelR_any (ia pa : Option Addr) (il ic pl pc : Nat) (G : Gr) (a : Option Addr) (c : Nat) (zs : List Int) (w : World) (hG : GraphAt w ia il pa pl G) (hz : IntsAt w a zs) :
    Calls Try.prog 8 #[.agg #[.slice ia il ic, .slice pa pl pc], .slice a zs.length c] w fun e w' => FamSays (movO G zs) e w' ∧ Below w.heap.size w w' := by
  have hbel0 : Below w.heap.size w ((w.alloc (.cells #[.slice ia il ic, .slice pa pl pc] 25)).alloc (.cells #[.slice none 0 0, .slice none 0 0] 25)) := ((Below.refl _ _).alloc (Nat.le_refl _) _).alloc (by simp) _
  have HGX := Lib.hid (hG.below hbel0)
  have HZX := Lib.hid (hz.below hbel0)
  obtain ⟨W, hW⟩ : ∃ W, W = (w.alloc (.cells #[.slice ia il ic, .slice pa pl pc] 25)).alloc (.cells #[.slice none 0 0, .slice none 0 0] 25) := ⟨_, rfl⟩
  have hWs : W.heap.size = w.heap.size + 2 := by rw [hW]; simp
  have HBX0 : Hid (W.cell? ⟨w.heap.size, 0, none⟩ = some (.slice ia il ic)) := Lib.hid (by rw [hW]; simp [cell_push0])
  have HBX1 : Hid (W.cell? ⟨w.heap.size, 1, none⟩ = some (.slice pa pl pc)) := Lib.hid (by rw [hW]; simp [cell_push0])
  have HR0 : Hid (W.cell? ⟨w.heap.size + 1, 0, none⟩ = some (.slice none 0 0)) := Lib.hid (by rw [hW]; simp [cell_push0])
  have HR1 : Hid (W.cell? ⟨w.heap.size + 1, 1, none⟩ = some (.slice none 0 0)) := Lib.hid (by rw [hW]; simp [cell_push0])
  have HF0 : Hid (W.frozen? ⟨w.heap.size + 1, 0, none⟩ = false) := Lib.hid (by rw [hW]; simp [free_push0])
  have HF1 : Hid (W.frozen? ⟨w.heap.size + 1, 1, none⟩ = false) := Lib.hid (by rw [hW]; simp [free_push0])
  rw [← hW] at hbel0
  have HB := Lib.hid hbel0
  have HFit := Lib.hid (fit_ps hG)
  have HIL := Lib.hid hG.il
  have HPL := Lib.hid hG.pl
  have HZF := Lib.hid hz.fits
  have HW := Lib.hid hW
  clear hbel0 hW hG hz
  have HS : Hid (∀ X, Below W.heap.size W X → X.cell? ⟨w.heap.size, 0, none⟩ = some (.slice ia il ic) ∧ X.cell? ⟨w.heap.size, 1, none⟩ = some (.slice pa pl pc) ∧ X.cell? ⟨w.heap.size + 1, 0, none⟩ = some (.slice none 0 0) ∧ X.cell? ⟨w.heap.size + 1, 1, none⟩ = some (.slice none 0 0) ∧ X.frozen? ⟨w.heap.size + 1, 0, none⟩ = false ∧ X.frozen? ⟨w.heap.size + 1, 1, none⟩ = false) := Lib.hid (fun X h =>
    ⟨(h.cell (p := ⟨w.heap.size, 0, none⟩) (by simp; omega)).trans HBX0.out, (h.cell (p := ⟨w.heap.size, 1, none⟩) (by simp; omega)).trans HBX1.out, (h.cell (p := ⟨w.heap.size + 1, 0, none⟩) (by simp; omega)).trans HR0.out, (h.cell (p := ⟨w.heap.size + 1, 1, none⟩) (by simp; omega)).trans HR1.out, (h.frozen (p := ⟨w.heap.size + 1, 0, none⟩) (by simp; omega)).trans HF0.out, (h.frozen (p := ⟨w.heap.size + 1, 1, none⟩) (by simp; omega)).trans HF1.out⟩)
  have hzm : zs.length ≤ maxLen := HZX.out.size
  have HZW : Hid (IntsAt W a zs) := Lib.hid (HW.out ▸ HZX.out)
  have HGW : Hid (GraphAt W ia il pa pl G) := Lib.hid (HW.out ▸ HGX.out)
  have HZL : Hid (zs.length = zs.length) := Lib.hid rfl
  obtain ⟨n, hn⟩ : ∃ n, n = zs.length := ⟨_, rfl⟩
  have HNZ := Lib.hid hn
  rw [← hn] at hzm ⊢
  clear hn HZL
  cases hv : validB G with
  | false =>
    have HO : Hid (movO G zs = .inl 1) := Lib.hid (by unfold movO; rw [hv]; rfl)
    go_enter Try.func8, Try.ntmps8
    go_wp2_with (go_at_call 12; refine (refValid_any _ _ _ _ _ _ G _ HGX.out).mono ?_; rintro e w1 ⟨rfl, hb1⟩; rw [← HW.out] at hb1; have bx := HS.out _ hb1; obtain ⟨_, _, e0, e1, e2, e3⟩ := bx; have HE := Lib.hid (fun u0 u1 => ((HB.out.trans (hb1.mono HB.out.size)).setCell (p := ⟨w.heap.size + 1, 0, none⟩) (by simp) u0).setCell (p := ⟨w.heap.size + 1, 1, none⟩) (by simp) u1); clear hb1)
    refine bodyPost_ret (v := .tuple #[.agg #[.slice none 0 0, .slice none 0 0], .int .i64 1]) (by rw [results_c1 rfl]; go_simp) rfl ?_
    rw [HO.out]
    exact ⟨rfl, HE.out _ _⟩
  | true =>
    by_cases hp : permOk zs G.ps.length
    · have HO : Hid (movO G zs = .inr (movG G zs)) := Lib.hid (by unfold movO; rw [if_pos hv, if_pos hp])
      have hV := validB_iff.1 hv
      have hnp : n = pl := by have h1 := HNZ.out; have h2 := HPL.out; have h3 := perm_len hp; omega
      subst hnp
      have hp1 : 1 ≤ n := by have := hV.pos; have := HPL.out; omega
      have hp24 : n ≤ 24 := by have := hV.le; have := HPL.out; omega
      have hiln : il = n := by have := hV.ids; have := HPL.out; have := HIL.out; omega
      subst hiln
      have HV := Lib.hid hV
      have HP := Lib.hid hp
      clear hV hp
      go_enter Try.func8, Try.ntmps8
      go_wp2_with (first | (go_at_call 12; (with_reducible refine (refValid_any _ _ _ _ _ _ G _ HGX.out).mono ?_); rintro e w1 ⟨rfl, hb1⟩; rw [← HW.out] at hb1; have HB1 := Lib.hid hb1; have bx := HS.out _ hb1; obtain ⟨b0, b1, e0, e1, e2, e3⟩ := bx; clear hb1) | (go_at_call 13; have hpc := perm_any a c zs (il : Int) w1 (HZW.out.below HB1.out); rw [← HNZ.out] at hpc; refine hpc.mono ?_; rintro e w2 ⟨⟨bb, rfl, hbb⟩, hb2⟩; obtain rfl : bb = true := hbb.2 (by rw [HPL.out]; exact HP.out); clear b0 b1 e0 e1 e2 e3 hbb hpc; have HB2 := Lib.hid (HB1.out.trans (hb2.mono HB1.out.size)); have bx := HS.out _ HB2.out; obtain ⟨b0, b1, e0, e1, e2, e3⟩ := bx; clear hb2) | (go_at_call 21; refine (plain_any il (by omega) _).mono ?_; rintro e w3 ⟨⟨a1, q1, a2, q2, rfl, hA⟩, hb3⟩; clear b0 b1 e0 e1 e2 e3))
      have HAP := Lib.hid hA
      have HB3 := Lib.hid hb3
      clear hA hb3
      obtain ⟨a10, _, ea1, _, p1⟩ := own_slice (HAP.out.own (idsR (.slice a1 il q1) (upTo il)) (by simp))
      obtain ⟨ib, rfl, _⟩ : ∃ g, a1 = some ⟨g, 0, none⟩ ∧ g < w3.heap.size := by
        injection ea1 with ea
        rw [ea]
        exact p1 (by simp [idsR, upTo_len]; omega)
      obtain ⟨a20, _, ea2, _, p2⟩ := own_slice (HAP.out.own (hdrR (.slice a2 il q2) ((bare il).map Prod.fst)) (by simp))
      obtain ⟨hb, rfl, _⟩ : ∃ g, a2 = some ⟨g, 0, none⟩ ∧ g < w3.heap.size := by
        injection ea2 with ea
        rw [ea]
        exact p2 (by simp [hdrR, bare_len]; omega)
      clear ea1 p1 ea2 p2
      have hM0 := Made.box (z1 := .slice (some ⟨ib, 0, none⟩) il q1) (z2 := .slice (some ⟨hb, 0, none⟩) il q2) (t := 25) HAP.out HB3.out
      have hs2 := HB2.out.size
      have hs3 := HB3.out.size
      rw [show upTo il = idsM G zs 0 by rw [idsM_zero, ← HPL.out]] at hM0
      obtain ⟨wr0, hwr0⟩ : ∃ x, x = w3.alloc (.cells #[.slice (some ⟨ib, 0, none⟩) il q1, .slice (some ⟨hb, 0, none⟩) il q2] 25) := ⟨_, rfl⟩
      rw [← hwr0] at hM0 ⊢
      obtain ⟨gb, hgb⟩ : ∃ gb, gb = w3.heap.size := ⟨_, rfl⟩
      rw [← hgb] at hM0 hs3 ⊢
      clear hwr0 hgb HAP HB3
      have HM0 := Lib.hid hM0
      have HR0' := Lib.hid (rowK_bare G zs il)
      clear hM0
      -- what the arguments hold
      obtain ⟨zb, zo, rfl, hzb, hzc⟩ := HZW.out.row (by have := HNZ.out; omega)
      obtain ⟨jb, jo, rfl, hjb, hjc⟩ := HGW.out.ids.row (by have := HIL.out; omega)
      obtain ⟨pb, po, rfl, hpb, hpc⟩ := HGW.out.ports.row (by have := HPL.out; omega)
      have HZC : Hid (∀ X, Below W.heap.size W X → ∀ k, k < il → X.cell? ⟨zb, zo + k, none⟩ = some (.int .i64 (idA zs k))) := Lib.hid (fun X h k hk => (h.cell (p := ⟨zb, zo + k, none⟩) hzb).trans (hzc k (by have := HNZ.out; omega)))
      have HJC : Hid (∀ X, Below W.heap.size W X → ∀ k, k < il → X.cell? ⟨jb, jo + k, none⟩ = some (.int .i64 (idA G.ids k))) := Lib.hid (fun X h k hk => (h.cell (p := ⟨jb, jo + k, none⟩) hjb).trans (hjc k (by have := HIL.out; omega)))
      have HPC := Lib.hid hpc
      clear hzc hjc hpc
      go_loopw [7] (fun t wr => ∃ (k : Nat) (us : List (Value × List (Int × Int))), t = .int .i64 k ∧ k ≤ il ∧ RowsR il (rowK G zs k) us ∧ Made w2 gb wr (.slice (some ⟨ib, 0, none⟩) il q1) (.slice (some ⟨hb, 0, none⟩) il q2) (.slice (some ⟨ib, 0, none⟩) il q1) (idsM G zs k) (.slice (some ⟨hb, 0, none⟩) il q2) (us.map Prod.fst) us) (fun t _ => il - (intOf t).toNat)
      case atStart => exact ⟨0, bare il, rfl, Nat.zero_le _, HR0'.out, HM0.out⟩
      case round =>
        clear HM0 HR0'
        obtain ⟨k, us, rfl, hk, hR, hM⟩ := hrel
        have HM := Lib.hid hM
        have HR := Lib.hid hR
        have HX : Hid (Below W.heap.size W wr) := Lib.hid (HB2.out.trans (hM.fr.mono HB2.out.size))
        have hsz := hM.fr.size
        clear hM hR
        by_cases hlt : k < il
        · obtain ⟨d, hd, hdn⟩ := perm_at HP.out (k := k) (by rw [← HPL.out]; exact hlt)
          rw [← HPL.out] at hdn
          have HD := Lib.hid hd
          have hk0 : (0 : Int) ≤ k := by omega
          have hk1 : (k : Int) < il := by omega
          have hd0 : (0 : Int) ≤ d := by omega
          have hd1 : (d : Int) < il := by omega
          have HQ : Hid (∀ X, Below w2.heap.size w2 X → X.cell? ⟨zb, zo + k, none⟩ = some (.int .i64 (d : Int)) ∧ X.cell? ⟨w.heap.size, 0, none⟩ = some (.slice (some ⟨jb, jo, none⟩) il ic) ∧ X.cell? ⟨jb, jo + k, none⟩ = some (.int .i64 (idA G.ids k))) := Lib.hid (fun X h => by
            have hb := HB2.out.trans (h.mono HB2.out.size)
            have h1 := HZC.out X hb k hlt
            rw [hd] at h1
            exact ⟨h1, (HS.out X hb).1, HJC.out X hb k hlt⟩)
          clear hd
          have c0 := HM.out.c0
          have z1 := (HM.out.drew).idCell (i := d) (by rw [idsM_len, ← HPL.out]; exact hdn)
          have z2 := (HM.out.drew).idFree d
          go_wp2
          refine keep_start (fun w' => w'.cell? ⟨gb, 0, none⟩ = some (.slice (some ⟨ib, 0, none⟩) il q1) ∧ w'.cell? ⟨zb, zo + k, none⟩ = some (.int .i64 (d : Int)) ∧ w'.cell? ⟨w.heap.size, 0, none⟩ = some (.slice (some ⟨jb, jo, none⟩) il ic) ∧ w'.cell? ⟨jb, jo + k, none⟩ = some (.int .i64 (idA G.ids k))) [12] (by kernel_rfl) ?_
          (refine keep_pure 0 (v := ?_) rfl (by kernel_rfl) (by kernel_rfl) (by kernel_rfl) (by kernel_rfl) (fun _ _ _ h => h) (Or.inl ⟨by rfl, ?_⟩) (.inr (by exact ⟨HM.out.drew.c0, HQ.out _ HM.out.drew.fr⟩)) ?_; rotate_left 1; focus (intro _; go_simp; (try go_ints); try (with_reducible rfl)); (try simp only [Act.put, List.setIfInBounds_toArray, List.set_cons_zero, List.set_cons_succ]))
          (refine keep_pure 2 (v := ?_) rfl (by kernel_rfl) (by kernel_rfl) (by kernel_rfl) (by kernel_rfl) (fun _ _ _ h => h) (Or.inl ⟨by rfl, ?_⟩) (.inr (by exact ⟨HM.out.drew.c0, HQ.out _ HM.out.drew.fr⟩)) ?_; rotate_left 1; focus (intro _; go_simp; (try go_ints); try (with_reducible rfl)); (try simp only [Act.put, List.setIfInBounds_toArray, List.set_cons_zero, List.set_cons_succ]))
          (refine keep_pure 3 (v := ?_) rfl (by kernel_rfl) (by kernel_rfl) (by kernel_rfl) (by kernel_rfl) (fun _ _ _ h => h) (Or.inl ⟨by rfl, ?_⟩) (.inr (by exact ⟨HM.out.drew.c0, HQ.out _ HM.out.drew.fr⟩)) ?_; rotate_left 1; focus (intro _; go_simp; (try go_ints); try (with_reducible rfl)); (try simp only [Act.put, List.setIfInBounds_toArray, List.set_cons_zero, List.set_cons_succ]))
          (refine keep_pure 4 (v := ?_) rfl (by kernel_rfl) (by kernel_rfl) (by kernel_rfl) (by kernel_rfl) (fun _ _ _ h => h) (Or.inl ⟨by rfl, ?_⟩) (.inr (by exact ⟨HM.out.drew.c0, HQ.out _ HM.out.drew.fr⟩)) ?_; rotate_left 1; focus (intro _; go_simp; (try go_ints); try (with_reducible rfl)); (try simp only [Act.put, List.setIfInBounds_toArray, List.set_cons_zero, List.set_cons_succ]))
          (refine keep_pure 6 (v := ?_) rfl (by kernel_rfl) (by kernel_rfl) (by kernel_rfl) (by kernel_rfl) (fun _ _ _ h => h) (Or.inl ⟨by rfl, ?_⟩) (.inr (by exact ⟨HM.out.drew.c0, HQ.out _ HM.out.drew.fr⟩)) ?_; rotate_left 1; focus (intro _; go_simp; (try go_ints); try (with_reducible rfl)); (try simp only [Act.put, List.setIfInBounds_toArray, List.set_cons_zero, List.set_cons_succ]))
          (refine keep_pure 8 (v := ?_) rfl (by kernel_rfl) (by kernel_rfl) (by kernel_rfl) (by kernel_rfl) (fun _ _ _ h => h) (Or.inl ⟨by rfl, ?_⟩) (.inr (by exact ⟨HM.out.drew.c0, HQ.out _ HM.out.drew.fr⟩)) ?_; rotate_left 1; focus (intro _; go_simp; (try go_ints); try (with_reducible rfl)); (try simp only [Act.put, List.setIfInBounds_toArray, List.set_cons_zero, List.set_cons_succ]))
          (refine keep_load 1 (v := ?_) rfl (by kernel_rfl) (by kernel_rfl) (by kernel_rfl) (by kernel_rfl) (by kernel_rfl) (by kernel_rfl) (fun _ _ _ h => h) (Or.inl ⟨by rfl, ?_⟩) (by exact ⟨HM.out.drew.c0, HQ.out _ HM.out.drew.fr⟩) ?_; rotate_left 1; focus (intro _ hSw; (first | (obtain ⟨_, _, _, _, _, _, _, _⟩ := hSw) | (obtain ⟨_, _, _, _, _⟩ := hSw) | (obtain ⟨_, _, _, _⟩ := hSw) | (obtain ⟨_, _, _⟩ := hSw) | (obtain ⟨_, _⟩ := hSw) | skip); go_simp; (try go_ints); try (with_reducible rfl)); (try simp only [Act.put, List.setIfInBounds_toArray, List.set_cons_zero, List.set_cons_succ]))
          (refine keep_load 5 (v := ?_) rfl (by kernel_rfl) (by kernel_rfl) (by kernel_rfl) (by kernel_rfl) (by kernel_rfl) (by kernel_rfl) (fun _ _ _ h => h) (Or.inl ⟨by rfl, ?_⟩) (by exact ⟨HM.out.drew.c0, HQ.out _ HM.out.drew.fr⟩) ?_; rotate_left 1; focus (intro _ hSw; (first | (obtain ⟨_, _, _, _, _, _, _, _⟩ := hSw) | (obtain ⟨_, _, _, _, _⟩ := hSw) | (obtain ⟨_, _, _, _⟩ := hSw) | (obtain ⟨_, _, _⟩ := hSw) | (obtain ⟨_, _⟩ := hSw) | skip); go_simp; (try go_ints); try (with_reducible rfl)); (try simp only [Act.put, List.setIfInBounds_toArray, List.set_cons_zero, List.set_cons_succ]))
          (refine keep_load 7 (v := ?_) rfl (by kernel_rfl) (by kernel_rfl) (by kernel_rfl) (by kernel_rfl) (by kernel_rfl) (by kernel_rfl) (fun _ _ _ h => h) (Or.inl ⟨by rfl, ?_⟩) (by exact ⟨HM.out.drew.c0, HQ.out _ HM.out.drew.fr⟩) ?_; rotate_left 1; focus (intro _ hSw; (first | (obtain ⟨_, _, _, _, _, _, _, _⟩ := hSw) | (obtain ⟨_, _, _, _, _⟩ := hSw) | (obtain ⟨_, _, _, _⟩ := hSw) | (obtain ⟨_, _, _⟩ := hSw) | (obtain ⟨_, _⟩ := hSw) | skip); go_simp; (try go_ints); try (with_reducible rfl)); (try simp only [Act.put, List.setIfInBounds_toArray, List.set_cons_zero, List.set_cons_succ]))
          (refine keep_pure 9 (v := ?_) rfl (by kernel_rfl) (by kernel_rfl) (by kernel_rfl) (by kernel_rfl) (fun _ _ _ h => h) (Or.inl ⟨by rfl, ?_⟩) (.inr (by exact ⟨HM.out.drew.c0, HQ.out _ HM.out.drew.fr⟩)) ?_; rotate_left 1; focus (intro _; go_simp; (try go_ints); try (with_reducible rfl)); (try simp only [Act.put, List.setIfInBounds_toArray, List.set_cons_zero, List.set_cons_succ]))
          (refine keep_load 10 (v := ?_) rfl (by kernel_rfl) (by kernel_rfl) (by kernel_rfl) (by kernel_rfl) (by kernel_rfl) (by kernel_rfl) (fun _ _ _ h => h) (Or.inl ⟨by rfl, ?_⟩) (by exact ⟨HM.out.drew.c0, HQ.out _ HM.out.drew.fr⟩) ?_; rotate_left 1; focus (intro _ hSw; (first | (obtain ⟨_, _, _, _, _, _, _, _⟩ := hSw) | (obtain ⟨_, _, _, _, _⟩ := hSw) | (obtain ⟨_, _, _, _⟩ := hSw) | (obtain ⟨_, _, _⟩ := hSw) | (obtain ⟨_, _⟩ := hSw) | skip); go_simp; (try go_ints); try (with_reducible rfl)); (try simp only [Act.put, List.setIfInBounds_toArray, List.set_cons_zero, List.set_cons_succ]))
          (refine keep_pure 11 (v := ?_) rfl (by kernel_rfl) (by kernel_rfl) (by kernel_rfl) (by kernel_rfl) (fun _ _ _ h => h) (Or.inl ⟨by rfl, ?_⟩) (.inr (by exact ⟨HM.out.drew.c0, HQ.out _ HM.out.drew.fr⟩)) ?_; rotate_left 1; focus (intro _; go_simp; (try go_ints); try (with_reducible rfl)); (try simp only [Act.put, List.setIfInBounds_toArray, List.set_cons_zero, List.set_cons_succ]))
          (refine keep_one 12 (by kernel_rfl) rfl ?_)
          intro K hK
          go_simp
          refine hK _ _ (fun h => absurd h (calm_not (by kernel_rfl))) ?_
          clear hK K
          (try simp only [Act.put, List.setIfInBounds_toArray, List.set_cons_zero, List.set_cons_succ])
          (refine keep_done (by kernel_rfl) ?_)
          have hM1 := (HM.out.setId d (idA G.ids k)).drew
          rw [idsM_step HP.out (by rw [← HPL.out]; exact hlt) HD.out] at hM1
          obtain ⟨wr1, hwr1⟩ : ∃ x, x = (wr.setCell ⟨ib, d, none⟩ (.int .i64 (idA G.ids k))).drew := ⟨_, rfl⟩
          rw [← hwr1] at hM1 ⊢
          clear hwr1 z1 z2 c0
          have HM1 := Lib.hid hM1
          have hR1 : RowsR il (rowX G zs k 0) us := HR.out.congr (fun v hv => rowX_begin HP.out (by rw [← HPL.out]; exact hlt) (by rw [← HPL.out]; exact hv))
          have HR1' := Lib.hid hR1
          clear hM1 hR1 HM HR HQ
          obtain ⟨la, lc, hcl, hL⟩ := HPC.out k (by rw [← HPL.out]; exact hlt)
          have HCL := Lib.hid hcl
          have HL := Lib.hid hL
          have hrow : (rowA G.ps k).length ≤ 24 := by
            have h1 := HPL.out
            have h2 := (HV.out.links k (by omega)).len (by omega)
            omega
          obtain ⟨m, hm⟩ : ∃ m, m = (rowA G.ps k).length := ⟨_, rfl⟩
          have HMl := Lib.hid hm
          rw [← hm] at hrow
          clear hcl hL hm
          go_wp2
          go_loopw [8] (fun t wz => ∃ (i : Nat) (us : List (Value × List (Int × Int))), t = .int .i64 i ∧ i ≤ m ∧ RowsR il (rowX G zs k i) us ∧ Made w2 gb wz (.slice (some ⟨ib, 0, none⟩) il q1) (.slice (some ⟨hb, 0, none⟩) il q2) (.slice (some ⟨ib, 0, none⟩) il q1) (idsM G zs (k + 1)) (.slice (some ⟨hb, 0, none⟩) il q2) (us.map Prod.fst) us) (fun t _ => m - (intOf t).toNat)
          case atStart => exact ⟨0, us, rfl, Nat.zero_le _, HR1'.out, HM1.out⟩
          case round =>
            clear HM1 HR1' us
            obtain ⟨i, us, rfl, hi, hR, hM⟩ := hrel
            have HM := Lib.hid hM
            have HR := Lib.hid hR
            have HXz : Hid (Below W.heap.size W wr) := Lib.hid (HB2.out.trans (hM.fr.mono HB2.out.size))
            have hszz := hM.fr.size
            clear hM hR
            have hrc : wr.cell? ⟨pb, po + k, none⟩ = some (.slice la m lc) := by
              rw [HMl.out]
              exact (HXz.out.cell (p := ⟨pb, po + k, none⟩) hpb).trans HCL.out
            have hb1 := (HS.out _ HXz.out).2.1
            by_cases hil : i < m
            · obtain ⟨rb, ro, rfl, hrb, hlk⟩ := HL.out.row (by rw [← HMl.out]; omega)
              obtain ⟨l0, l1⟩ := hlk i (by rw [← HMl.out]; exact hil)
              have hok := HV.out.links k (by rw [← HPL.out]; exact hlt) i (by rw [← HMl.out]; exact hil)
              obtain ⟨to, hto⟩ : ∃ to : Nat, toA (rowA G.ps k) i = to := ⟨(toA (rowA G.ps k) i).toNat, (Int.toNat_of_nonneg hok.1.1).symm⟩
              have htn : to < il := by have := hok.1.2; have := HPL.out; omega
              have HST : Hid (rowX G zs k (i + 1) d = rowX G zs k i d ++ [(idA zs to, wtA (rowA G.ps k) i)]) := Lib.hid (by
                rw [rowX_step HD.out (by rw [← HMl.out]; exact hil), hto, Int.toNat_natCast])
              have HXL : Hid ((rowX G zs k i d).length = i) := Lib.hid (by
                rw [rowX_at HD.out, mvR_len, List.length_take, ← HMl.out]
                omega)
              rw [hto] at l0
              generalize wtA (rowA G.ps k) i = wt at l1 HST
              clear hlk hok hto
              obtain ⟨ua, uc, hu, hh⟩ := HM.out.rowAt HR.out hdn (xs := rowX G zs k i d) rfl
              have hxs : (rowX G zs k i d).length ≤ 24 := by rw [HXL.out]; omega
              generalize rowX G zs k i d = xs at hu hh HST HXL hxs
              have HU := Lib.hid hu
              have HH := Lib.hid hh
              clear hu hh
              have HQ : Hid (∀ X, Below w2.heap.size w2 X → X.cell? ⟨zb, zo + k, none⟩ = some (.int .i64 (d : Int)) ∧ X.cell? ⟨w.heap.size, 1, none⟩ = some (.slice (some ⟨pb, po, none⟩) il pc) ∧ X.cell? ⟨pb, po + k, none⟩ = some (.slice (some ⟨rb, ro, none⟩) m lc) ∧ X.cell? ⟨rb, ro + i * 2, none⟩ = some (.int .i64 (to : Int)) ∧ X.cell? ⟨rb, ro + i * 2 + 1, none⟩ = some (.int .i64 wt) ∧ X.cell? ⟨zb, zo + to, none⟩ = some (.int .i64 (idA zs to))) := Lib.hid (fun X h => by
                have hb := HB2.out.trans (h.mono HB2.out.size)
                have h1 := HZC.out X hb k hlt
                rw [HD.out] at h1
                have h2 : X.cell? ⟨pb, po + k, none⟩ = some (.slice (some ⟨rb, ro, none⟩) m lc) := by
                  rw [HMl.out]
                  exact (hb.cell (p := ⟨pb, po + k, none⟩) hpb).trans HCL.out
                exact ⟨h1, (HS.out X hb).2.1, h2, (hb.cell (p := ⟨rb, ro + i * 2, none⟩) hrb).trans l0, (hb.cell (p := ⟨rb, ro + i * 2 + 1, none⟩) hrb).trans l1, HZC.out X hb to htn⟩)
              clear l0 l1
              obtain ⟨pt, hpt⟩ : ∃ pt, idA zs to = pt := ⟨_, rfl⟩
              rw [hpt] at HQ HST
              clear hpt
              have hi0 : (0 : Int) ≤ i := by omega
              have hi1 : (i : Int) < m := by omega
              have ht0 : (0 : Int) ≤ to := by omega
              have ht1 : (to : Int) < il := by omega
              have c1 := HM.out.c1
              have ck := HM.out.hdrCell HH.out
              go_wp2
              refine keep_start (fun w' => w'.cell? ⟨gb, 1, none⟩ = some (.slice (some ⟨hb, 0, none⟩) il q2) ∧ w'.cell? ⟨hb, d, none⟩ = some (.slice ua xs.length uc) ∧ w'.cell? ⟨zb, zo + k, none⟩ = some (.int .i64 (d : Int)) ∧ w'.cell? ⟨w.heap.size, 1, none⟩ = some (.slice (some ⟨pb, po, none⟩) il pc) ∧ w'.cell? ⟨pb, po + k, none⟩ = some (.slice (some ⟨rb, ro, none⟩) m lc) ∧ w'.cell? ⟨rb, ro + i * 2, none⟩ = some (.int .i64 (to : Int)) ∧ w'.cell? ⟨rb, ro + i * 2 + 1, none⟩ = some (.int .i64 wt) ∧ w'.cell? ⟨zb, zo + to, none⟩ = some (.int .i64 pt)) [39] (by kernel_rfl) ?_
              (refine keep_pure 0 (v := ?_) rfl (by kernel_rfl) (by kernel_rfl) (by kernel_rfl) (by kernel_rfl) (fun _ _ _ h => h) (Or.inl ⟨by rfl, ?_⟩) (.inr (by exact ⟨HM.out.drew.c1, HM.out.drew.hdrCell HH.out, HQ.out _ HM.out.drew.fr⟩)) ?_; rotate_left 1; focus (intro _; go_simp; (try go_ints); try (with_reducible rfl)); (try simp only [Act.put, List.setIfInBounds_toArray, List.set_cons_zero, List.set_cons_succ]))
              (refine keep_pure 2 (v := ?_) rfl (by kernel_rfl) (by kernel_rfl) (by kernel_rfl) (by kernel_rfl) (fun _ _ _ h => h) (Or.inl ⟨by rfl, ?_⟩) (.inr (by exact ⟨HM.out.drew.c1, HM.out.drew.hdrCell HH.out, HQ.out _ HM.out.drew.fr⟩)) ?_; rotate_left 1; focus (intro _; go_simp; (try go_ints); try (with_reducible rfl)); (try simp only [Act.put, List.setIfInBounds_toArray, List.set_cons_zero, List.set_cons_succ]))
              (refine keep_pure 3 (v := ?_) rfl (by kernel_rfl) (by kernel_rfl) (by kernel_rfl) (by kernel_rfl) (fun _ _ _ h => h) (Or.inl ⟨by rfl, ?_⟩) (.inr (by exact ⟨HM.out.drew.c1, HM.out.drew.hdrCell HH.out, HQ.out _ HM.out.drew.fr⟩)) ?_; rotate_left 1; focus (intro _; go_simp; (try go_ints); try (with_reducible rfl)); (try simp only [Act.put, List.setIfInBounds_toArray, List.set_cons_zero, List.set_cons_succ]))
              (refine keep_pure 4 (v := ?_) rfl (by kernel_rfl) (by kernel_rfl) (by kernel_rfl) (by kernel_rfl) (fun _ _ _ h => h) (Or.inl ⟨by rfl, ?_⟩) (.inr (by exact ⟨HM.out.drew.c1, HM.out.drew.hdrCell HH.out, HQ.out _ HM.out.drew.fr⟩)) ?_; rotate_left 1; focus (intro _; go_simp; (try go_ints); try (with_reducible rfl)); (try simp only [Act.put, List.setIfInBounds_toArray, List.set_cons_zero, List.set_cons_succ]))
              (refine keep_pure 6 (v := ?_) rfl (by kernel_rfl) (by kernel_rfl) (by kernel_rfl) (by kernel_rfl) (fun _ _ _ h => h) (Or.inl ⟨by rfl, ?_⟩) (.inr (by exact ⟨HM.out.drew.c1, HM.out.drew.hdrCell HH.out, HQ.out _ HM.out.drew.fr⟩)) ?_; rotate_left 1; focus (intro _; go_simp; (try go_ints); try (with_reducible rfl)); (try simp only [Act.put, List.setIfInBounds_toArray, List.set_cons_zero, List.set_cons_succ]))
              (refine keep_pure 8 (v := ?_) rfl (by kernel_rfl) (by kernel_rfl) (by kernel_rfl) (by kernel_rfl) (fun _ _ _ h => h) (Or.inl ⟨by rfl, ?_⟩) (.inr (by exact ⟨HM.out.drew.c1, HM.out.drew.hdrCell HH.out, HQ.out _ HM.out.drew.fr⟩)) ?_; rotate_left 1; focus (intro _; go_simp; (try go_ints); try (with_reducible rfl)); (try simp only [Act.put, List.setIfInBounds_toArray, List.set_cons_zero, List.set_cons_succ]))
              (refine keep_pure 9 (v := ?_) rfl (by kernel_rfl) (by kernel_rfl) (by kernel_rfl) (by kernel_rfl) (fun _ _ _ h => h) (Or.inl ⟨by rfl, ?_⟩) (.inr (by exact ⟨HM.out.drew.c1, HM.out.drew.hdrCell HH.out, HQ.out _ HM.out.drew.fr⟩)) ?_; rotate_left 1; focus (intro _; go_simp; (try go_ints); try (with_reducible rfl)); (try simp only [Act.put, List.setIfInBounds_toArray, List.set_cons_zero, List.set_cons_succ]))
              (refine keep_pure 10 (v := ?_) rfl (by kernel_rfl) (by kernel_rfl) (by kernel_rfl) (by kernel_rfl) (fun _ _ _ h => h) (Or.inl ⟨by rfl, ?_⟩) (.inr (by exact ⟨HM.out.drew.c1, HM.out.drew.hdrCell HH.out, HQ.out _ HM.out.drew.fr⟩)) ?_; rotate_left 1; focus (intro _; go_simp; (try go_ints); try (with_reducible rfl)); (try simp only [Act.put, List.setIfInBounds_toArray, List.set_cons_zero, List.set_cons_succ]))
              (refine keep_pure 14 (v := ?_) rfl (by kernel_rfl) (by kernel_rfl) (by kernel_rfl) (by kernel_rfl) (fun _ _ _ h => h) (Or.inl ⟨by rfl, ?_⟩) (.inr (by exact ⟨HM.out.drew.c1, HM.out.drew.hdrCell HH.out, HQ.out _ HM.out.drew.fr⟩)) ?_; rotate_left 1; focus (intro _; go_simp; (try go_ints); try (with_reducible rfl)); (try simp only [Act.put, List.setIfInBounds_toArray, List.set_cons_zero, List.set_cons_succ]))
              (refine keep_pure 15 (v := ?_) rfl (by kernel_rfl) (by kernel_rfl) (by kernel_rfl) (by kernel_rfl) (fun _ _ _ h => h) (Or.inl ⟨by rfl, ?_⟩) (.inr (by exact ⟨HM.out.drew.c1, HM.out.drew.hdrCell HH.out, HQ.out _ HM.out.drew.fr⟩)) ?_; rotate_left 1; focus (intro _; go_simp; (try go_ints); try (with_reducible rfl)); (try simp only [Act.put, List.setIfInBounds_toArray, List.set_cons_zero, List.set_cons_succ]))
              (refine keep_pure 17 (v := ?_) rfl (by kernel_rfl) (by kernel_rfl) (by kernel_rfl) (by kernel_rfl) (fun _ _ _ h => h) (Or.inl ⟨by rfl, ?_⟩) (.inr (by exact ⟨HM.out.drew.c1, HM.out.drew.hdrCell HH.out, HQ.out _ HM.out.drew.fr⟩)) ?_; rotate_left 1; focus (intro _; go_simp; (try go_ints); try (with_reducible rfl)); (try simp only [Act.put, List.setIfInBounds_toArray, List.set_cons_zero, List.set_cons_succ]))
              (refine keep_pure 20 (v := ?_) rfl (by kernel_rfl) (by kernel_rfl) (by kernel_rfl) (by kernel_rfl) (fun _ _ _ h => h) (Or.inl ⟨by rfl, ?_⟩) (.inr (by exact ⟨HM.out.drew.c1, HM.out.drew.hdrCell HH.out, HQ.out _ HM.out.drew.fr⟩)) ?_; rotate_left 1; focus (intro _; go_simp; (try go_ints); try (with_reducible rfl)); (try simp only [Act.put, List.setIfInBounds_toArray, List.set_cons_zero, List.set_cons_succ]))
              (refine keep_pure 26 (v := ?_) rfl (by kernel_rfl) (by kernel_rfl) (by kernel_rfl) (by kernel_rfl) (fun _ _ _ h => h) (Or.inl ⟨by rfl, ?_⟩) (.inr (by exact ⟨HM.out.drew.c1, HM.out.drew.hdrCell HH.out, HQ.out _ HM.out.drew.fr⟩)) ?_; rotate_left 1; focus (intro _; go_simp; (try go_ints); try (with_reducible rfl)); (try simp only [Act.put, List.setIfInBounds_toArray, List.set_cons_zero, List.set_cons_succ]))
              (refine keep_pure 28 (v := ?_) rfl (by kernel_rfl) (by kernel_rfl) (by kernel_rfl) (by kernel_rfl) (fun _ _ _ h => h) (Or.inl ⟨by rfl, ?_⟩) (.inr (by exact ⟨HM.out.drew.c1, HM.out.drew.hdrCell HH.out, HQ.out _ HM.out.drew.fr⟩)) ?_; rotate_left 1; focus (intro _; go_simp; (try go_ints); try (with_reducible rfl)); (try simp only [Act.put, List.setIfInBounds_toArray, List.set_cons_zero, List.set_cons_succ]))
              (refine keep_pure 31 (v := ?_) rfl (by kernel_rfl) (by kernel_rfl) (by kernel_rfl) (by kernel_rfl) (fun _ _ _ h => h) (Or.inl ⟨by rfl, ?_⟩) (.inr (by exact ⟨HM.out.drew.c1, HM.out.drew.hdrCell HH.out, HQ.out _ HM.out.drew.fr⟩)) ?_; rotate_left 1; focus (intro _; go_simp; (try go_ints); try (with_reducible rfl)); (try simp only [Act.put, List.setIfInBounds_toArray, List.set_cons_zero, List.set_cons_succ]))
              (refine keep_load 1 (v := ?_) rfl (by kernel_rfl) (by kernel_rfl) (by kernel_rfl) (by kernel_rfl) (by kernel_rfl) (by kernel_rfl) (fun _ _ _ h => h) (Or.inl ⟨by rfl, ?_⟩) (by exact ⟨HM.out.drew.c1, HM.out.drew.hdrCell HH.out, HQ.out _ HM.out.drew.fr⟩) ?_; rotate_left 1; focus (intro _ hSw; (first | (obtain ⟨_, _, _, _, _, _, _, _⟩ := hSw) | (obtain ⟨_, _, _, _, _⟩ := hSw) | (obtain ⟨_, _, _, _⟩ := hSw) | (obtain ⟨_, _, _⟩ := hSw) | (obtain ⟨_, _⟩ := hSw) | skip); go_simp; (try go_ints); try (with_reducible rfl)); (try simp only [Act.put, List.setIfInBounds_toArray, List.set_cons_zero, List.set_cons_succ]))
              (refine keep_load 5 (v := ?_) rfl (by kernel_rfl) (by kernel_rfl) (by kernel_rfl) (by kernel_rfl) (by kernel_rfl) (by kernel_rfl) (fun _ _ _ h => h) (Or.inl ⟨by rfl, ?_⟩) (by exact ⟨HM.out.drew.c1, HM.out.drew.hdrCell HH.out, HQ.out _ HM.out.drew.fr⟩) ?_; rotate_left 1; focus (intro _ hSw; (first | (obtain ⟨_, _, _, _, _, _, _, _⟩ := hSw) | (obtain ⟨_, _, _, _, _⟩ := hSw) | (obtain ⟨_, _, _, _⟩ := hSw) | (obtain ⟨_, _, _⟩ := hSw) | (obtain ⟨_, _⟩ := hSw) | skip); go_simp; (try go_ints); try (with_reducible rfl)); (try simp only [Act.put, List.setIfInBounds_toArray, List.set_cons_zero, List.set_cons_succ]))
              (refine keep_load 7 (v := ?_) rfl (by kernel_rfl) (by kernel_rfl) (by kernel_rfl) (by kernel_rfl) (by kernel_rfl) (by kernel_rfl) (fun _ _ _ h => h) (Or.inl ⟨by rfl, ?_⟩) (by exact ⟨HM.out.drew.c1, HM.out.drew.hdrCell HH.out, HQ.out _ HM.out.drew.fr⟩) ?_; rotate_left 1; focus (intro _ hSw; (first | (obtain ⟨_, _, _, _, _, _, _, _⟩ := hSw) | (obtain ⟨_, _, _, _, _⟩ := hSw) | (obtain ⟨_, _, _, _⟩ := hSw) | (obtain ⟨_, _, _⟩ := hSw) | (obtain ⟨_, _⟩ := hSw) | skip); go_simp; (try go_ints); try (with_reducible rfl)); (try simp only [Act.put, List.setIfInBounds_toArray, List.set_cons_zero, List.set_cons_succ]))
              (refine keep_load 11 (v := ?_) rfl (by kernel_rfl) (by kernel_rfl) (by kernel_rfl) (by kernel_rfl) (by kernel_rfl) (by kernel_rfl) (fun _ _ _ h => h) (Or.inl ⟨by rfl, ?_⟩) (by exact ⟨HM.out.drew.c1, HM.out.drew.hdrCell HH.out, HQ.out _ HM.out.drew.fr⟩) ?_; rotate_left 1; focus (intro _ hSw; (first | (obtain ⟨_, _, _, _, _, _, _, _⟩ := hSw) | (obtain ⟨_, _, _, _, _⟩ := hSw) | (obtain ⟨_, _, _, _⟩ := hSw) | (obtain ⟨_, _, _⟩ := hSw) | (obtain ⟨_, _⟩ := hSw) | skip); go_simp; (try go_ints); try (with_reducible rfl)); (try simp only [Act.put, List.setIfInBounds_toArray, List.set_cons_zero, List.set_cons_succ]))
              (refine keep_pure 12 (v := ?_) rfl (by kernel_rfl) (by kernel_rfl) (by kernel_rfl) (by kernel_rfl) (fun _ _ _ h => h) (Or.inl ⟨by rfl, ?_⟩) (.inr (by exact ⟨HM.out.drew.c1, HM.out.drew.hdrCell HH.out, HQ.out _ HM.out.drew.fr⟩)) ?_; rotate_left 1; focus (intro _; go_simp; (try go_ints); try (with_reducible rfl)); (try simp only [Act.put, List.setIfInBounds_toArray, List.set_cons_zero, List.set_cons_succ]))
              (refine keep_load 13 (v := ?_) rfl (by kernel_rfl) (by kernel_rfl) (by kernel_rfl) (by kernel_rfl) (by kernel_rfl) (by kernel_rfl) (fun _ _ _ h => h) (Or.inl ⟨by rfl, ?_⟩) (by exact ⟨HM.out.drew.c1, HM.out.drew.hdrCell HH.out, HQ.out _ HM.out.drew.fr⟩) ?_; rotate_left 1; focus (intro _ hSw; (first | (obtain ⟨_, _, _, _, _, _, _, _⟩ := hSw) | (obtain ⟨_, _, _, _, _⟩ := hSw) | (obtain ⟨_, _, _, _⟩ := hSw) | (obtain ⟨_, _, _⟩ := hSw) | (obtain ⟨_, _⟩ := hSw) | skip); go_simp; (try go_ints); try (with_reducible rfl)); (try simp only [Act.put, List.setIfInBounds_toArray, List.set_cons_zero, List.set_cons_succ]))
              (refine keep_load 16 (v := ?_) rfl (by kernel_rfl) (by kernel_rfl) (by kernel_rfl) (by kernel_rfl) (by kernel_rfl) (by kernel_rfl) (fun _ _ _ h => h) (Or.inl ⟨by rfl, ?_⟩) (by exact ⟨HM.out.drew.c1, HM.out.drew.hdrCell HH.out, HQ.out _ HM.out.drew.fr⟩) ?_; rotate_left 1; focus (intro _ hSw; (first | (obtain ⟨_, _, _, _, _, _, _, _⟩ := hSw) | (obtain ⟨_, _, _, _, _⟩ := hSw) | (obtain ⟨_, _, _, _⟩ := hSw) | (obtain ⟨_, _, _⟩ := hSw) | (obtain ⟨_, _⟩ := hSw) | skip); go_simp; (try go_ints); try (with_reducible rfl)); (try simp only [Act.put, List.setIfInBounds_toArray, List.set_cons_zero, List.set_cons_succ]))
              (refine keep_pure 18 (v := ?_) rfl (by kernel_rfl) (by kernel_rfl) (by kernel_rfl) (by kernel_rfl) (fun _ _ _ h => h) (Or.inl ⟨by rfl, ?_⟩) (.inr (by exact ⟨HM.out.drew.c1, HM.out.drew.hdrCell HH.out, HQ.out _ HM.out.drew.fr⟩)) ?_; rotate_left 1; focus (intro _; go_simp; (try go_ints); try (with_reducible rfl)); (try simp only [Act.put, List.setIfInBounds_toArray, List.set_cons_zero, List.set_cons_succ]))
              (refine keep_load 19 (v := ?_) rfl (by kernel_rfl) (by kernel_rfl) (by kernel_rfl) (by kernel_rfl) (by kernel_rfl) (by kernel_rfl) (fun _ _ _ h => h) (Or.inl ⟨by rfl, ?_⟩) (by exact ⟨HM.out.drew.c1, HM.out.drew.hdrCell HH.out, HQ.out _ HM.out.drew.fr⟩) ?_; rotate_left 1; focus (intro _ hSw; (first | (obtain ⟨_, _, _, _, _, _, _, _⟩ := hSw) | (obtain ⟨_, _, _, _, _⟩ := hSw) | (obtain ⟨_, _, _, _⟩ := hSw) | (obtain ⟨_, _, _⟩ := hSw) | (obtain ⟨_, _⟩ := hSw) | skip); go_simp; (try go_ints); try (with_reducible rfl)); (try simp only [Act.put, List.setIfInBounds_toArray, List.set_cons_zero, List.set_cons_succ]))
              (refine keep_pure 21 (v := ?_) rfl (by kernel_rfl) (by kernel_rfl) (by kernel_rfl) (by kernel_rfl) (fun _ _ _ h => h) (Or.inl ⟨by rfl, ?_⟩) (.inr (by exact ⟨HM.out.drew.c1, HM.out.drew.hdrCell HH.out, HQ.out _ HM.out.drew.fr⟩)) ?_; rotate_left 1; focus (intro _; go_simp; (try go_ints); try (with_reducible rfl)); (try simp only [Act.put, List.setIfInBounds_toArray, List.set_cons_zero, List.set_cons_succ]))
              (refine keep_pure 22 (v := ?_) rfl (by kernel_rfl) (by kernel_rfl) (by kernel_rfl) (by kernel_rfl) (fun _ _ _ h => h) (Or.inl ⟨by rfl, ?_⟩) (.inr (by exact ⟨HM.out.drew.c1, HM.out.drew.hdrCell HH.out, HQ.out _ HM.out.drew.fr⟩)) ?_; rotate_left 1; focus (intro _; go_simp; (try go_ints); try (with_reducible rfl)); (try simp only [Act.put, List.setIfInBounds_toArray, List.set_cons_zero, List.set_cons_succ]))
              (refine keep_load 23 (v := ?_) rfl (by kernel_rfl) (by kernel_rfl) (by kernel_rfl) (by kernel_rfl) (by kernel_rfl) (by kernel_rfl) (fun _ _ _ h => h) (Or.inl ⟨by rfl, ?_⟩) (by exact ⟨HM.out.drew.c1, HM.out.drew.hdrCell HH.out, HQ.out _ HM.out.drew.fr⟩) ?_; rotate_left 1; focus (intro _ hSw; (first | (obtain ⟨_, _, _, _, _, _, _, _⟩ := hSw) | (obtain ⟨_, _, _, _, _⟩ := hSw) | (obtain ⟨_, _, _, _⟩ := hSw) | (obtain ⟨_, _, _⟩ := hSw) | (obtain ⟨_, _⟩ := hSw) | skip); go_simp; (try go_ints); try (with_reducible rfl)); (try simp only [Act.put, List.setIfInBounds_toArray, List.set_cons_zero, List.set_cons_succ]))
              (refine keep_pure 24 (v := ?_) rfl (by kernel_rfl) (by kernel_rfl) (by kernel_rfl) (by kernel_rfl) (fun _ _ _ h => h) (Or.inl ⟨by rfl, ?_⟩) (.inr (by exact ⟨HM.out.drew.c1, HM.out.drew.hdrCell HH.out, HQ.out _ HM.out.drew.fr⟩)) ?_; rotate_left 1; focus (intro _; go_simp; (try go_ints); try (with_reducible rfl)); (try simp only [Act.put, List.setIfInBounds_toArray, List.set_cons_zero, List.set_cons_succ]))
              (refine keep_load 25 (v := ?_) rfl (by kernel_rfl) (by kernel_rfl) (by kernel_rfl) (by kernel_rfl) (by kernel_rfl) (by kernel_rfl) (fun _ _ _ h => h) (Or.inl ⟨by rfl, ?_⟩) (by exact ⟨HM.out.drew.c1, HM.out.drew.hdrCell HH.out, HQ.out _ HM.out.drew.fr⟩) ?_; rotate_left 1; focus (intro _ hSw; (first | (obtain ⟨_, _, _, _, _, _, _, _⟩ := hSw) | (obtain ⟨_, _, _, _, _⟩ := hSw) | (obtain ⟨_, _, _, _⟩ := hSw) | (obtain ⟨_, _, _⟩ := hSw) | (obtain ⟨_, _⟩ := hSw) | skip); go_simp; (try go_ints); try (with_reducible rfl)); (try simp only [Act.put, List.setIfInBounds_toArray, List.set_cons_zero, List.set_cons_succ]))
              (refine keep_load 27 (v := ?_) rfl (by kernel_rfl) (by kernel_rfl) (by kernel_rfl) (by kernel_rfl) (by kernel_rfl) (by kernel_rfl) (fun _ _ _ h => h) (Or.inl ⟨by rfl, ?_⟩) (by exact ⟨HM.out.drew.c1, HM.out.drew.hdrCell HH.out, HQ.out _ HM.out.drew.fr⟩) ?_; rotate_left 1; focus (intro _ hSw; (first | (obtain ⟨_, _, _, _, _, _, _, _⟩ := hSw) | (obtain ⟨_, _, _, _, _⟩ := hSw) | (obtain ⟨_, _, _, _⟩ := hSw) | (obtain ⟨_, _, _⟩ := hSw) | (obtain ⟨_, _⟩ := hSw) | skip); go_simp; (try go_ints); try (with_reducible rfl)); (try simp only [Act.put, List.setIfInBounds_toArray, List.set_cons_zero, List.set_cons_succ]))
              (refine keep_pure 29 (v := ?_) rfl (by kernel_rfl) (by kernel_rfl) (by kernel_rfl) (by kernel_rfl) (fun _ _ _ h => h) (Or.inl ⟨by rfl, ?_⟩) (.inr (by exact ⟨HM.out.drew.c1, HM.out.drew.hdrCell HH.out, HQ.out _ HM.out.drew.fr⟩)) ?_; rotate_left 1; focus (intro _; go_simp; (try go_ints); try (with_reducible rfl)); (try simp only [Act.put, List.setIfInBounds_toArray, List.set_cons_zero, List.set_cons_succ]))
              (refine keep_load 30 (v := ?_) rfl (by kernel_rfl) (by kernel_rfl) (by kernel_rfl) (by kernel_rfl) (by kernel_rfl) (by kernel_rfl) (fun _ _ _ h => h) (Or.inl ⟨by rfl, ?_⟩) (by exact ⟨HM.out.drew.c1, HM.out.drew.hdrCell HH.out, HQ.out _ HM.out.drew.fr⟩) ?_; rotate_left 1; focus (intro _ hSw; (first | (obtain ⟨_, _, _, _, _, _, _, _⟩ := hSw) | (obtain ⟨_, _, _, _, _⟩ := hSw) | (obtain ⟨_, _, _, _⟩ := hSw) | (obtain ⟨_, _, _⟩ := hSw) | (obtain ⟨_, _⟩ := hSw) | skip); go_simp; (try go_ints); try (with_reducible rfl)); (try simp only [Act.put, List.setIfInBounds_toArray, List.set_cons_zero, List.set_cons_succ]))
              (refine keep_pure 32 (v := ?_) rfl (by kernel_rfl) (by kernel_rfl) (by kernel_rfl) (by kernel_rfl) (fun _ _ _ h => h) (Or.inl ⟨by rfl, ?_⟩) (.inr (by exact ⟨HM.out.drew.c1, HM.out.drew.hdrCell HH.out, HQ.out _ HM.out.drew.fr⟩)) ?_; rotate_left 1; focus (intro _; go_simp; (try go_ints); try (with_reducible rfl)); (try simp only [Act.put, List.setIfInBounds_toArray, List.set_cons_zero, List.set_cons_succ]))
              (refine keep_pure 33 (v := ?_) rfl (by kernel_rfl) (by kernel_rfl) (by kernel_rfl) (by kernel_rfl) (fun _ _ _ h => h) (Or.inl ⟨by rfl, ?_⟩) (.inr (by exact ⟨HM.out.drew.c1, HM.out.drew.hdrCell HH.out, HQ.out _ HM.out.drew.fr⟩)) ?_; rotate_left 1; focus (intro _; go_simp; (try go_ints); try (with_reducible rfl)); (try simp only [Act.put, List.setIfInBounds_toArray, List.set_cons_zero, List.set_cons_succ]))
              (refine keep_load 34 (v := ?_) rfl (by kernel_rfl) (by kernel_rfl) (by kernel_rfl) (by kernel_rfl) (by kernel_rfl) (by kernel_rfl) (fun _ _ _ h => h) (Or.inl ⟨by rfl, ?_⟩) (by exact ⟨HM.out.drew.c1, HM.out.drew.hdrCell HH.out, HQ.out _ HM.out.drew.fr⟩) ?_; rotate_left 1; focus (intro _ hSw; (first | (obtain ⟨_, _, _, _, _, _, _, _⟩ := hSw) | (obtain ⟨_, _, _, _, _⟩ := hSw) | (obtain ⟨_, _, _, _⟩ := hSw) | (obtain ⟨_, _, _⟩ := hSw) | (obtain ⟨_, _⟩ := hSw) | skip); go_simp; (try go_ints); try (with_reducible rfl)); (try simp only [Act.put, List.setIfInBounds_toArray, List.set_cons_zero, List.set_cons_succ]))
              (refine keep_pure 35 (v := ?_) rfl (by kernel_rfl) (by kernel_rfl) (by kernel_rfl) (by kernel_rfl) (fun _ _ _ h => h) (Or.inl ⟨by rfl, ?_⟩) (.inr (by exact ⟨HM.out.drew.c1, HM.out.drew.hdrCell HH.out, HQ.out _ HM.out.drew.fr⟩)) ?_; rotate_left 1; focus (intro _; go_simp; (try go_ints); try (with_reducible rfl)); (try simp only [Act.put, List.setIfInBounds_toArray, List.set_cons_zero, List.set_cons_succ]))
              (refine keep_one 36 (by kernel_rfl) rfl ?_)
              intro K hK
              go_simp
              refine hK _ _ (fun h => (by exact ⟨(HM.out.drew.alloc _).c1, (HM.out.drew.alloc _).hdrCell HH.out, HQ.out _ (HM.out.drew.alloc _).fr⟩)) ?_
              clear hK K
              (try simp only [Act.put, List.setIfInBounds_toArray, List.set_cons_zero, List.set_cons_succ])
              (refine keep_one 37 (by kernel_rfl) rfl ?_)
              intro K hK
              (refine step_link rfl (.tmp 64) (.tmp 87) 38 rfl Try.underlying38 wr.heap.size (pt, wt) d _ _ (by rfl) (by rfl) (HM.out.drew.alloc (.cells #[.int .i64 pt, .int .i64 wt] 41)) HU.out (by simp [cell_push0]) (by simp [cell_push0]) (by omega) ?_)
              intro g1 cap1 wn1 hMn
              have hbn := hMn.fr
              have z0 := hMn.c1
              have z1 := hMn.hdrCell HH.out
              have z2 := hMn.hdrFree d
              have HN := Lib.hid hMn
              clear hMn
              refine hK _ _ (fun h => (by exact ⟨z0, z1, HQ.out _ hbn⟩)) ?_
              clear hK K
              (try simp only [Act.put, List.setIfInBounds_toArray, List.set_cons_zero, List.set_cons_succ])
              (refine keep_pure 38 (v := ?_) rfl (by kernel_rfl) (by kernel_rfl) (by kernel_rfl) (by kernel_rfl) (fun _ _ _ h => h) (Or.inl ⟨by rfl, ?_⟩) (.inr (by exact ⟨z0, z1, HQ.out _ hbn⟩)) ?_; rotate_left 1; focus (intro _; go_simp; (try go_ints); try (with_reducible rfl)); (try simp only [Act.put, List.setIfInBounds_toArray, List.set_cons_zero, List.set_cons_succ]))
              (refine keep_one 39 (by kernel_rfl) rfl ?_)
              intro K hK
              go_simp
              refine hK _ _ (fun h => absurd h (calm_not (by kernel_rfl))) ?_
              clear hK K
              (try simp only [Act.put, List.setIfInBounds_toArray, List.set_cons_zero, List.set_cons_succ])
              (refine keep_done (by kernel_rfl) ?_)
              have hM2 := HN.out.stored
              have hR2 : RowsR il (rowX G zs k (i + 1)) (us.set d (.slice (some ⟨g1, 0, none⟩) (xs.length + 1) cap1, xs ++ [(pt, wt)])) := HR.out.set HST.out (fun v hv _ => rowX_other HD.out hv)
              obtain ⟨wr2, hw2⟩ : ∃ x, x = wn1.setCell ⟨hb, d, none⟩ (.slice (some ⟨g1, 0, none⟩) (xs.length + 1) cap1) := ⟨_, rfl⟩
              rw [← hw2] at hM2 ⊢
              clear hw2 z0 z1 z2 c1 ck hrc hb1
              generalize us.set d _ = us2 at hM2 hR2
              have HM2 := Lib.hid hM2
              have HR2 := Lib.hid hR2
              clear hM2 hR2
              go_wp2
              go_roundw
              case rel => exact ⟨i + 1, us2, by go_num, by omega, HR2.out, HM2.out⟩
              case measure => simp [intOf]; omega
            · obtain rfl : i = m := by omega
              have hR2 : RowsR il (rowK G zs (k + 1)) us := HR.out.congr (fun v hv => by
                rw [HMl.out]
                exact rowX_end HP.out (by rw [← HPL.out]; exact hlt) (by rw [← HPL.out]; exact hv))
              have HR2 := Lib.hid hR2
              clear hR2
              go_wp2
              go_roundw
              case rel => exact ⟨k + 1, us, by go_num, by omega, HR2.out, HM.out⟩
              case measure => simp [intOf]; omega
        · obtain rfl : k = il := by omega
          have g0 := HM.out.c0
          have g1 := HM.out.c1
          have bx := HS.out _ HX.out
          obtain ⟨_, _, e0, e1, e2, e3⟩ := bx
          go_wp2
          refine bodyPost_ret (v := .tuple #[.agg #[.slice (some ⟨ib, 0, none⟩) k q1, .slice (some ⟨hb, 0, none⟩) k q2], .int .i64 0]) (by rw [results_c1 rfl]; go_simp) rfl ?_
          have hM3 := HM.out
          rw [HPL.out, idsM_all HP.out, ← HPL.out] at hM3
          have hmg : k = (movG G zs).ps.length := by rw [movG_len]; exact HPL.out
          have hmi : k = (movG G zs).ids.length := by rw [HPL.out]; simp [movG]
          have hmr : us.map Prod.snd = (movG G zs).ps := by
            rw [HR.out.all, HPL.out]
            exact List.map_congr_left fun u hu => rowK_all HP.out (List.mem_range.1 hu)
          rw [HO.out]
          exact ⟨⟨some ⟨ib, 0, none⟩, k, q1, some ⟨hb, 0, none⟩, k, q2, rfl, hM3.graphIsFar (G := movG G zs) hmi hmg hmr (mov_fit ⟨HGW.out.ids.fits, HFit.out⟩ HZF.out HP.out) ((grown_set wr (w.heap.size + 1) 0 _).trans (grown_set _ (w.heap.size + 1) 1 _)) (by omega)⟩, hM3.back (HB.out.trans (HB2.out.mono HB.out.size)) (by omega) _ _⟩
    · have HO : Hid (movO G zs = .inl 2) := Lib.hid (by unfold movO; rw [if_pos hv, if_neg hp])
      have HP := Lib.hid hp
      clear hp
      go_enter Try.func8, Try.ntmps8
      go_wp2_with (first | (go_at_call 12; (with_reducible refine (refValid_any _ _ _ _ _ _ G _ HGX.out).mono ?_); rintro e w1 ⟨rfl, hb1⟩; rw [← HW.out] at hb1; have HB1 := Lib.hid hb1; have bx := HS.out _ hb1; obtain ⟨b0, b1, e0, e1, e2, e3⟩ := bx; clear hb1) | (go_at_call 13; have hpc := perm_any a c zs (pl : Int) w1 (HZW.out.below HB1.out); rw [← HNZ.out] at hpc; refine hpc.mono ?_; rintro e w2 ⟨⟨bb, rfl, hbb⟩, hb2⟩; obtain rfl : bb = false := (by cases bb; rfl; exact absurd (hbb.1 rfl) (by rw [HPL.out]; exact HP.out)); clear b0 b1 e0 e1 e2 e3 hbb hpc; have HB2 := Lib.hid (HB1.out.trans (hb2.mono HB1.out.size)); have bx := HS.out _ HB2.out; obtain ⟨b0, b1, e0, e1, e2, e3⟩ := bx; clear hb2))
      have HE := Lib.hid (fun u0 u1 => ((HB.out.trans (HB2.out.mono HB.out.size)).setCell (p := ⟨w.heap.size + 1, 0, none⟩) (by simp) u0).setCell (p := ⟨w.heap.size + 1, 1, none⟩) (by simp) u1)
      refine bodyPost_ret (v := .tuple #[.agg #[.slice none 0 0, .slice none 0 0], .int .i64 2]) (by rw [results_c1 rfl]; go_simp) rfl ?_
      rw [HO.out]
      exact ⟨rfl, HE.out _ _⟩
end Go.Proofs.Ytfbbkiibhdgojaa
