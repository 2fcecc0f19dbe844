/- What Relabel of package family answers. -/
import Derived.Test.YtfbbkiibhdgojaaRelMath2
import Derived.Test.YtfbbkiibhdgojaaMadeTwo
import Derived.Test.YtfbbkiibhdgojaaMovMath
import Derived.Test.YtfbbkiibhdgojaaFamIdent
import Derived.Test.YtfbbkiibhdgojaaDelete
namespace Go.Proofs.Ytfbbkiibhdgojaa
open Go.RowKit

set_option linter.unusedSimpArgs false in
set_option maxHeartbeats 8000000 in
set_option maxRecDepth 100000 in
theorem relabelP_any (ia pa : Option Addr) (il ic pl pc : Nat) (G : Gr) (a : Option Addr) (c : Nat) (zs : List Int) (w : World) (hG : GraphAt w ia il pa pl G) (hz : IntsAt w a zs) :
    Calls Try.prog 7 #[.agg #[.slice ia il ic, .slice pa pl pc], .slice a zs.length c] w fun e w' => FamOwn w.heap.size (movO G zs) e w' ∧ Below w.heap.size w w' := by
  have hbel0 : Below w.heap.size w ((w.alloc (.cells #[.slice ia il ic, .slice pa pl pc] 25)).alloc (.cells #[.slice none 0 0, .slice none 0 0] 25)) := ((Below.refl _ _).alloc (Nat.le_refl _) _).alloc (by simp) _
  have HGX := Lib.hid (hG.below hbel0)
  have HZX := Lib.hid (hz.below hbel0)
  obtain ⟨W, hW⟩ : ∃ W, W = (w.alloc (.cells #[.slice ia il ic, .slice pa pl pc] 25)).alloc (.cells #[.slice none 0 0, .slice none 0 0] 25) := ⟨_, rfl⟩
  have hWs : W.heap.size = w.heap.size + 2 := by rw [hW]; simp
  have HBX0 : Hid (W.cell? ⟨w.heap.size, 0, none⟩ = some (.slice ia il ic)) := Lib.hid (by rw [hW]; simp [cell_push0])
  have HBX1 : Hid (W.cell? ⟨w.heap.size, 1, none⟩ = some (.slice pa pl pc)) := Lib.hid (by rw [hW]; simp [cell_push0])
  have HR0 : Hid (W.cell? ⟨w.heap.size + 1, 0, none⟩ = some (.slice none 0 0)) := Lib.hid (by rw [hW]; simp [cell_push0])
  have HR1 : Hid (W.cell? ⟨w.heap.size + 1, 1, none⟩ = some (.slice none 0 0)) := Lib.hid (by rw [hW]; simp [cell_push0])
  have HF0 : Hid (W.frozen? ⟨w.heap.size + 1, 0, none⟩ = false) := Lib.hid (by rw [hW]; simp [free_push0])
  have HF1 : Hid (W.frozen? ⟨w.heap.size + 1, 1, none⟩ = false) := Lib.hid (by rw [hW]; simp [free_push0])
  rw [← hW] at hbel0
  have HB := Lib.hid hbel0
  have HFit := Lib.hid (fit_ps hG)
  have HIL := Lib.hid hG.il
  have HPL := Lib.hid hG.pl
  have HZF := Lib.hid hz.fits
  have HW := Lib.hid hW
  clear hbel0 hW hG hz
  have HS : Hid (∀ X, Below W.heap.size W X → X.cell? ⟨w.heap.size, 0, none⟩ = some (.slice ia il ic) ∧ X.cell? ⟨w.heap.size, 1, none⟩ = some (.slice pa pl pc) ∧ X.cell? ⟨w.heap.size + 1, 0, none⟩ = some (.slice none 0 0) ∧ X.cell? ⟨w.heap.size + 1, 1, none⟩ = some (.slice none 0 0) ∧ X.frozen? ⟨w.heap.size + 1, 0, none⟩ = false ∧ X.frozen? ⟨w.heap.size + 1, 1, none⟩ = false) := Lib.hid (fun X h =>
    ⟨(h.cell (p := ⟨w.heap.size, 0, none⟩) (by simp; omega)).trans HBX0.out, (h.cell (p := ⟨w.heap.size, 1, none⟩) (by simp; omega)).trans HBX1.out, (h.cell (p := ⟨w.heap.size + 1, 0, none⟩) (by simp; omega)).trans HR0.out, (h.cell (p := ⟨w.heap.size + 1, 1, none⟩) (by simp; omega)).trans HR1.out, (h.frozen (p := ⟨w.heap.size + 1, 0, none⟩) (by simp; omega)).trans HF0.out, (h.frozen (p := ⟨w.heap.size + 1, 1, none⟩) (by simp; omega)).trans HF1.out⟩)
  have hzm : zs.length ≤ maxLen := HZX.out.size
  have HZW : Hid (IntsAt W a zs) := Lib.hid (HW.out ▸ HZX.out)
  have HGW : Hid (GraphAt W ia il pa pl G) := Lib.hid (HW.out ▸ HGX.out)
  have HZL : Hid (zs.length = zs.length) := Lib.hid rfl
  obtain ⟨n, hn⟩ : ∃ n, n = zs.length := ⟨_, rfl⟩
  have HNZ := Lib.hid hn
  rw [← hn] at hzm ⊢
  clear hn HZL
  cases hv : validB G with
  | false =>
    have HO : Hid (movO G zs = .inl 1) := Lib.hid (by unfold movO; rw [hv]; rfl)
    go_enter Try.func7, Try.ntmps7
    go_wp2_with (go_at_call 18; refine (valid_any _ _ _ _ _ _ G _ HGX.out).mono ?_; rintro e w1 ⟨rfl, hb1⟩; rw [← HW.out] at hb1; have bx := HS.out _ hb1; obtain ⟨_, _, e0, e1, e2, e3⟩ := bx; have HE := Lib.hid (fun u0 u1 => ((HB.out.trans (hb1.mono HB.out.size)).setCell (p := ⟨w.heap.size + 1, 0, none⟩) (by simp) u0).setCell (p := ⟨w.heap.size + 1, 1, none⟩) (by simp) u1); clear hb1)
    refine bodyPost_ret (v := .tuple #[.agg #[.slice none 0 0, .slice none 0 0], .int .i64 1]) (by rw [results_c1 rfl]; go_simp) rfl ?_
    rw [HO.out]
    exact ⟨noFam 1 _, HE.out _ _⟩
  | true =>
    have hpl24 : pl ≤ 24 := by have h1 := (validB_iff.1 hv).le; have h2 := HPL.out; omega
    by_cases hp : permOk zs G.ps.length
    · have HO : Hid (movO G zs = .inr (movG G zs)) := Lib.hid (by unfold movO; rw [if_pos hv, if_pos hp])
      have hV := validB_iff.1 hv
      have hnp : n = pl := by have h1 := HNZ.out; have h2 := HPL.out; have h3 := perm_len hp; omega
      subst hnp
      have hp1 : 1 ≤ n := by have := hV.pos; have := HPL.out; omega
      have hp24 : n ≤ 24 := by have := hV.le; have := HPL.out; omega
      have hiln : il = n := by have := hV.ids; have := HPL.out; have := HIL.out; omega
      subst hiln
      have HV := Lib.hid hV
      have HP := Lib.hid hp
      have HRW : Hid (∀ v, v < il → (rowA G.ps v).length ≤ 1000) := Lib.hid (fun v hv => rows_short hV v (by rw [← HPL.out]; exact hv))
      obtain ⟨i0, hi, hz0, hz1, hz2⟩ := info_parts info3
      obtain ⟨j0, hj, hy0, hy1, hy2⟩ := info_parts infoHdr
      clear hV hp
      go_enter Try.func7, Try.ntmps7
      go_wp2_with (first | (go_at_call 18; (with_reducible refine (valid_any _ _ _ _ _ _ G _ HGX.out).mono ?_); rintro e w1 ⟨rfl, hb1⟩; rw [← HW.out] at hb1; have HB1 := Lib.hid hb1; have bx := HS.out _ hb1; obtain ⟨b0, b1, e0, e1, e2, e3⟩ := bx; clear hb1) | (go_at_call 19; have hpc := permutes_any a c zs il w1 (HZW.out.below HB1.out) hp24; rw [← HNZ.out] at hpc; refine hpc.mono ?_; rintro e w2 ⟨⟨bb, rfl, hbb⟩, hb2⟩; obtain rfl : bb = true := hbb.2 (by rw [HPL.out]; exact HP.out); clear b0 b1 e0 e1 e2 e3 hbb hpc; have HB2 := Lib.hid (HB1.out.trans (hb2.mono HB1.out.size)); clear hb2))
      refine keep_join (fun act a' w' => ∃ ib hb gb, Made w2 gb w' (.slice (some ⟨ib, 0, none⟩) il il) (.slice (some ⟨hb, 0, none⟩) il il) (.slice (some ⟨ib, 0, none⟩) il il) (List.replicate il 0) (.slice (some ⟨hb, 0, none⟩) il il) ((bare il).map Prod.fst) (bare il) ∧
          a' = ((((((((act.put (some 22) (.slice a il c)).put (some 23) (.int .i64 il)).put (some 24) (.slice (some ⟨ib, 0, none⟩) il il)).put (some 25) (.slice a il c)).put (some 26) (.int .i64 il)).put (some 27) (.slice (some ⟨hb, 0, none⟩) il il)).put (some 28) (.agg #[.slice (some ⟨ib, 0, none⟩) il il, .slice (some ⟨hb, 0, none⟩) il il])).put (some 6) (.pointer (some ⟨gb, 0, none⟩)))) ?_ ?_
      · clear HO HB HFit HIL HZF HZW hv HNZ HGX HZX HPL HW HS HGW HV HP HRW HBX0 HBX1 HR0 HR1 HF0 HF1 HB1 HB2 hWs
        refine keep_start (fun _ => True) [] (by kernel_rfl) ?_
        (refine keep_pure 0 (v := ?_) rfl (by kernel_rfl) (by kernel_rfl) (by kernel_rfl) (by kernel_rfl) (fun _ _ _ h => h) (Or.inl ⟨by rfl, ?_⟩) (.inr (by trivial)) ?_; rotate_left 1; focus (intro _; go_simp; (try go_ints); try (with_reducible rfl)); (try simp only [Act.put, List.setIfInBounds_toArray, List.set_cons_zero, List.set_cons_succ]))
        (refine keep_pure 1 (v := ?_) rfl (by kernel_rfl) (by kernel_rfl) (by kernel_rfl) (by kernel_rfl) (fun _ _ _ h => h) (Or.inl ⟨by rfl, ?_⟩) (.inr (by trivial)) ?_; rotate_left 1; focus (intro _; go_simp; (try go_ints); try (with_reducible rfl)); (try simp only [Act.put, List.setIfInBounds_toArray, List.set_cons_zero, List.set_cons_succ]))
        (refine keep_pure 3 (v := ?_) rfl (by kernel_rfl) (by kernel_rfl) (by kernel_rfl) (by kernel_rfl) (fun _ _ _ h => h) (Or.inl ⟨by rfl, ?_⟩) (.inr (by trivial)) ?_; rotate_left 1; focus (intro _; go_simp; (try go_ints); try (with_reducible rfl)); (try simp only [Act.put, List.setIfInBounds_toArray, List.set_cons_zero, List.set_cons_succ]))
        (refine keep_pure 4 (v := ?_) rfl (by kernel_rfl) (by kernel_rfl) (by kernel_rfl) (by kernel_rfl) (fun _ _ _ h => h) (Or.inl ⟨by rfl, ?_⟩) (.inr (by trivial)) ?_; rotate_left 1; focus (intro _; go_simp; (try go_ints); try (with_reducible rfl)); (try simp only [Act.put, List.setIfInBounds_toArray, List.set_cons_zero, List.set_cons_succ]))
        obtain ⟨v0, hw0⟩ : ∃ x, x = w2.drew := ⟨_, rfl⟩
        rw [← hw0]
        have hB0 : Below w2.heap.size w2 v0 := by rw [hw0]; exact belDraws (Below.refl _ _) 1
        clear hw0
        refine keep_three 2 5 7 (by kernel_rfl) rfl rfl rfl ?_ ?_ ?_
        · skip
          intro K hK
          refine step_make_full rfl (.tmp 23) (.tmp 23) 22 rfl w2.heap.size 3 i0 (.int .i64 0) 1 Try.underlying22 hi hz0 hz1 .i64 .i64 _ _ il rfl rfl rfl rfl (by rw [hz2]; omega) (by unfold maxLen; omega) hB0.size ?_
          intro v1 o2 g0
          have hB1 := hB0.grown g0 hB0.size (fun k e => by cases e)
          have l2 : v0.heap.size < v1.heap.size := (World.ownsRow.lt o2 _ rfl).2
          refine hK _ _ (fun _ => trivial) ?_
          clear hK K
          (try simp only [Act.put, List.setIfInBounds_toArray, List.set_cons_zero, List.set_cons_succ])
          (refine keep_two 5 7 (by kernel_rfl) rfl rfl ?_ ?_)
          · skip
            intro K hK
            refine step_make_full rfl (.tmp 26) (.tmp 26) 23 rfl w2.heap.size 38 j0 (.slice none 0 0) 1 Try.underlying23 hj hy0 hy1 .i64 .i64 _ _ il rfl rfl rfl rfl (by rw [hy2]; omega) (by unfold maxLen; omega) hB1.size ?_
            intro v2 o5 g1
            have hB2 := hB1.grown g1 hB1.size (fun k e => by cases e)
            have l5 : v1.heap.size < v2.heap.size := (World.ownsRow.lt o5 _ rfl).2
            refine hK _ _ (fun _ => trivial) ?_
            clear hK K
            (try simp only [Act.put, List.setIfInBounds_toArray, List.set_cons_zero, List.set_cons_succ])
            (refine keep_pure 6 (v := ?_) rfl (by kernel_rfl) (by kernel_rfl) (by kernel_rfl) (by kernel_rfl) (fun _ _ _ h => h) (Or.inl ⟨by rfl, ?_⟩) (.inr (by trivial)) ?_; rotate_left 1; focus (intro _; go_simp; (try go_ints); try (with_reducible rfl)); (try simp only [Act.put, List.setIfInBounds_toArray, List.set_cons_zero, List.set_cons_succ]))
            (refine keep_one 7 (by kernel_rfl) rfl ?_)
            intro K hK
            go_simp
            obtain ⟨v3, hw3⟩ : ∃ x, x = v2.alloc (.cells #[.slice none 0 0, .slice none 0 0] 25) := ⟨_, rfl⟩
            have g2 : v2.grownBy v3 none := by rw [hw3]; exact World.grownBy_alloc _ _ _
            have c0 : v3.cell? ⟨v2.heap.size, 0, none⟩ = some (.slice none 0 0) := by rw [hw3]; simp [cell_push0]
            have c1 : v3.cell? ⟨v2.heap.size, 1, none⟩ = some (.slice none 0 0) := by rw [hw3]; simp [cell_push0]
            have f0 : v3.frozen? ⟨v2.heap.size, 0, none⟩ = false := by rw [hw3]; simp [free_push0]
            have f1 : v3.frozen? ⟨v2.heap.size, 1, none⟩ = false := by rw [hw3]; simp [free_push0]
            have l7 : v2.heap.size < v3.heap.size := cell_lt c0
            rw [← hw3]
            clear hw3
            have hB3 := hB2.grown g2 hB2.size (fun k e => by cases e)
            refine hK _ _ (fun _ => trivial) ?_
            clear hK K
            (try simp only [Act.put, List.setIfInBounds_toArray, List.set_cons_zero, List.set_cons_succ])
            replace o2 := World.ownsRow.kept o2 g1 (.inr (by simp [Value.ownBlock]))
            replace o2 := World.ownsRow.kept o2 g2 (.inr (by simp [Value.ownBlock]))
            replace o5 := World.ownsRow.kept o5 g2 (.inr (by simp [Value.ownBlock]))
            have s0 := hB0.size
            have s1 := hB1.size
            have s2 := hB2.size
            have hM := made_of (ib := v0.heap.size) (hb := v1.heap.size) (gb := v2.heap.size) (x1 := .slice (some ⟨v0.heap.size, 0, none⟩) il il) (x2 := .slice (some ⟨v1.heap.size, 0, none⟩) il il) hB3 o2 o5 (by omega) c0 c1 f0 f1 (by omega) (by omega) (by omega)
            (refine keep_one 8 (by kernel_rfl) rfl ?_)
            intro K hK
            go_simp
            refine hK _ _ (fun _ => trivial) ?_
            clear hK K
            (try simp only [Act.put, List.setIfInBounds_toArray, List.set_cons_zero, List.set_cons_succ])
            (refine keep_done (by kernel_rfl) ?_)
            exact ⟨_, _, _, hM, rfl⟩
          · skip
            intro K hK
            go_simp
            obtain ⟨v2, hw2⟩ : ∃ x, x = v1.alloc (.cells #[.slice none 0 0, .slice none 0 0] 25) := ⟨_, rfl⟩
            have g1 : v1.grownBy v2 none := by rw [hw2]; exact World.grownBy_alloc _ _ _
            have c0 : v2.cell? ⟨v1.heap.size, 0, none⟩ = some (.slice none 0 0) := by rw [hw2]; simp [cell_push0]
            have c1 : v2.cell? ⟨v1.heap.size, 1, none⟩ = some (.slice none 0 0) := by rw [hw2]; simp [cell_push0]
            have f0 : v2.frozen? ⟨v1.heap.size, 0, none⟩ = false := by rw [hw2]; simp [free_push0]
            have f1 : v2.frozen? ⟨v1.heap.size, 1, none⟩ = false := by rw [hw2]; simp [free_push0]
            have l7 : v1.heap.size < v2.heap.size := cell_lt c0
            rw [← hw2]
            clear hw2
            have hB2 := hB1.grown g1 hB1.size (fun k e => by cases e)
            refine hK _ _ (fun _ => trivial) ?_
            clear hK K
            (try simp only [Act.put, List.setIfInBounds_toArray, List.set_cons_zero, List.set_cons_succ])
            (refine keep_one 5 (by kernel_rfl) rfl ?_)
            intro K hK
            refine step_make_full rfl (.tmp 26) (.tmp 26) 23 rfl w2.heap.size 38 j0 (.slice none 0 0) 1 Try.underlying23 hj hy0 hy1 .i64 .i64 _ _ il rfl rfl rfl rfl (by rw [hy2]; omega) (by unfold maxLen; omega) hB2.size ?_
            intro v3 o5 g2
            have hB3 := hB2.grown g2 hB2.size (fun k e => by cases e)
            have l5 : v2.heap.size < v3.heap.size := (World.ownsRow.lt o5 _ rfl).2
            refine hK _ _ (fun _ => trivial) ?_
            clear hK K
            (try simp only [Act.put, List.setIfInBounds_toArray, List.set_cons_zero, List.set_cons_succ])
            (refine keep_pure 6 (v := ?_) rfl (by kernel_rfl) (by kernel_rfl) (by kernel_rfl) (by kernel_rfl) (fun _ _ _ h => h) (Or.inl ⟨by rfl, ?_⟩) (.inr (by trivial)) ?_; rotate_left 1; focus (intro _; go_simp; (try go_ints); try (with_reducible rfl)); (try simp only [Act.put, List.setIfInBounds_toArray, List.set_cons_zero, List.set_cons_succ]))
            replace o2 := World.ownsRow.kept o2 g1 (.inr (by simp [Value.ownBlock]))
            replace o2 := World.ownsRow.kept o2 g2 (.inr (by simp [Value.ownBlock]))
            replace c0 := g2.cell c0 (by simp)
            replace c1 := g2.cell c1 (by simp)
            replace f0 := (g2.frozen_far ⟨v1.heap.size, 0, none⟩ (by simp; omega) (by simp)).trans f0
            replace f1 := (g2.frozen_far ⟨v1.heap.size, 1, none⟩ (by simp; omega) (by simp)).trans f1
            have s0 := hB0.size
            have s1 := hB1.size
            have s2 := hB2.size
            have hM := made_of (ib := v0.heap.size) (hb := v2.heap.size) (gb := v1.heap.size) (x1 := .slice (some ⟨v0.heap.size, 0, none⟩) il il) (x2 := .slice (some ⟨v2.heap.size, 0, none⟩) il il) hB3 o2 o5 (by omega) c0 c1 f0 f1 (by omega) (by omega) (by omega)
            (refine keep_one 8 (by kernel_rfl) rfl ?_)
            intro K hK
            go_simp
            refine hK _ _ (fun _ => trivial) ?_
            clear hK K
            (try simp only [Act.put, List.setIfInBounds_toArray, List.set_cons_zero, List.set_cons_succ])
            (refine keep_done (by kernel_rfl) ?_)
            exact ⟨_, _, _, hM, rfl⟩
        · skip
          intro K hK
          refine step_make_full rfl (.tmp 26) (.tmp 26) 23 rfl w2.heap.size 38 j0 (.slice none 0 0) 1 Try.underlying23 hj hy0 hy1 .i64 .i64 _ _ il rfl rfl rfl rfl (by rw [hy2]; omega) (by unfold maxLen; omega) hB0.size ?_
          intro v1 o5 g0
          have hB1 := hB0.grown g0 hB0.size (fun k e => by cases e)
          have l5 : v0.heap.size < v1.heap.size := (World.ownsRow.lt o5 _ rfl).2
          refine hK _ _ (fun _ => trivial) ?_
          clear hK K
          (try simp only [Act.put, List.setIfInBounds_toArray, List.set_cons_zero, List.set_cons_succ])
          (refine keep_two 2 7 (by kernel_rfl) rfl rfl ?_ ?_)
          · skip
            intro K hK
            refine step_make_full rfl (.tmp 23) (.tmp 23) 22 rfl w2.heap.size 3 i0 (.int .i64 0) 1 Try.underlying22 hi hz0 hz1 .i64 .i64 _ _ il rfl rfl rfl rfl (by rw [hz2]; omega) (by unfold maxLen; omega) hB1.size ?_
            intro v2 o2 g1
            have hB2 := hB1.grown g1 hB1.size (fun k e => by cases e)
            have l2 : v1.heap.size < v2.heap.size := (World.ownsRow.lt o2 _ rfl).2
            refine hK _ _ (fun _ => trivial) ?_
            clear hK K
            (try simp only [Act.put, List.setIfInBounds_toArray, List.set_cons_zero, List.set_cons_succ])
            (refine keep_pure 6 (v := ?_) rfl (by kernel_rfl) (by kernel_rfl) (by kernel_rfl) (by kernel_rfl) (fun _ _ _ h => h) (Or.inl ⟨by rfl, ?_⟩) (.inr (by trivial)) ?_; rotate_left 1; focus (intro _; go_simp; (try go_ints); try (with_reducible rfl)); (try simp only [Act.put, List.setIfInBounds_toArray, List.set_cons_zero, List.set_cons_succ]))
            (refine keep_one 7 (by kernel_rfl) rfl ?_)
            intro K hK
            go_simp
            obtain ⟨v3, hw3⟩ : ∃ x, x = v2.alloc (.cells #[.slice none 0 0, .slice none 0 0] 25) := ⟨_, rfl⟩
            have g2 : v2.grownBy v3 none := by rw [hw3]; exact World.grownBy_alloc _ _ _
            have c0 : v3.cell? ⟨v2.heap.size, 0, none⟩ = some (.slice none 0 0) := by rw [hw3]; simp [cell_push0]
            have c1 : v3.cell? ⟨v2.heap.size, 1, none⟩ = some (.slice none 0 0) := by rw [hw3]; simp [cell_push0]
            have f0 : v3.frozen? ⟨v2.heap.size, 0, none⟩ = false := by rw [hw3]; simp [free_push0]
            have f1 : v3.frozen? ⟨v2.heap.size, 1, none⟩ = false := by rw [hw3]; simp [free_push0]
            have l7 : v2.heap.size < v3.heap.size := cell_lt c0
            rw [← hw3]
            clear hw3
            have hB3 := hB2.grown g2 hB2.size (fun k e => by cases e)
            refine hK _ _ (fun _ => trivial) ?_
            clear hK K
            (try simp only [Act.put, List.setIfInBounds_toArray, List.set_cons_zero, List.set_cons_succ])
            replace o5 := World.ownsRow.kept o5 g1 (.inr (by simp [Value.ownBlock]))
            replace o5 := World.ownsRow.kept o5 g2 (.inr (by simp [Value.ownBlock]))
            replace o2 := World.ownsRow.kept o2 g2 (.inr (by simp [Value.ownBlock]))
            have s0 := hB0.size
            have s1 := hB1.size
            have s2 := hB2.size
            have hM := made_of (ib := v1.heap.size) (hb := v0.heap.size) (gb := v2.heap.size) (x1 := .slice (some ⟨v1.heap.size, 0, none⟩) il il) (x2 := .slice (some ⟨v0.heap.size, 0, none⟩) il il) hB3 o2 o5 (by omega) c0 c1 f0 f1 (by omega) (by omega) (by omega)
            (refine keep_one 8 (by kernel_rfl) rfl ?_)
            intro K hK
            go_simp
            refine hK _ _ (fun _ => trivial) ?_
            clear hK K
            (try simp only [Act.put, List.setIfInBounds_toArray, List.set_cons_zero, List.set_cons_succ])
            (refine keep_done (by kernel_rfl) ?_)
            exact ⟨_, _, _, hM, rfl⟩
          · skip
            intro K hK
            go_simp
            obtain ⟨v2, hw2⟩ : ∃ x, x = v1.alloc (.cells #[.slice none 0 0, .slice none 0 0] 25) := ⟨_, rfl⟩
            have g1 : v1.grownBy v2 none := by rw [hw2]; exact World.grownBy_alloc _ _ _
            have c0 : v2.cell? ⟨v1.heap.size, 0, none⟩ = some (.slice none 0 0) := by rw [hw2]; simp [cell_push0]
            have c1 : v2.cell? ⟨v1.heap.size, 1, none⟩ = some (.slice none 0 0) := by rw [hw2]; simp [cell_push0]
            have f0 : v2.frozen? ⟨v1.heap.size, 0, none⟩ = false := by rw [hw2]; simp [free_push0]
            have f1 : v2.frozen? ⟨v1.heap.size, 1, none⟩ = false := by rw [hw2]; simp [free_push0]
            have l7 : v1.heap.size < v2.heap.size := cell_lt c0
            rw [← hw2]
            clear hw2
            have hB2 := hB1.grown g1 hB1.size (fun k e => by cases e)
            refine hK _ _ (fun _ => trivial) ?_
            clear hK K
            (try simp only [Act.put, List.setIfInBounds_toArray, List.set_cons_zero, List.set_cons_succ])
            (refine keep_one 2 (by kernel_rfl) rfl ?_)
            intro K hK
            refine step_make_full rfl (.tmp 23) (.tmp 23) 22 rfl w2.heap.size 3 i0 (.int .i64 0) 1 Try.underlying22 hi hz0 hz1 .i64 .i64 _ _ il rfl rfl rfl rfl (by rw [hz2]; omega) (by unfold maxLen; omega) hB2.size ?_
            intro v3 o2 g2
            have hB3 := hB2.grown g2 hB2.size (fun k e => by cases e)
            have l2 : v2.heap.size < v3.heap.size := (World.ownsRow.lt o2 _ rfl).2
            refine hK _ _ (fun _ => trivial) ?_
            clear hK K
            (try simp only [Act.put, List.setIfInBounds_toArray, List.set_cons_zero, List.set_cons_succ])
            (refine keep_pure 6 (v := ?_) rfl (by kernel_rfl) (by kernel_rfl) (by kernel_rfl) (by kernel_rfl) (fun _ _ _ h => h) (Or.inl ⟨by rfl, ?_⟩) (.inr (by trivial)) ?_; rotate_left 1; focus (intro _; go_simp; (try go_ints); try (with_reducible rfl)); (try simp only [Act.put, List.setIfInBounds_toArray, List.set_cons_zero, List.set_cons_succ]))
            replace o5 := World.ownsRow.kept o5 g1 (.inr (by simp [Value.ownBlock]))
            replace o5 := World.ownsRow.kept o5 g2 (.inr (by simp [Value.ownBlock]))
            replace c0 := g2.cell c0 (by simp)
            replace c1 := g2.cell c1 (by simp)
            replace f0 := (g2.frozen_far ⟨v1.heap.size, 0, none⟩ (by simp; omega) (by simp)).trans f0
            replace f1 := (g2.frozen_far ⟨v1.heap.size, 1, none⟩ (by simp; omega) (by simp)).trans f1
            have s0 := hB0.size
            have s1 := hB1.size
            have s2 := hB2.size
            have hM := made_of (ib := v2.heap.size) (hb := v0.heap.size) (gb := v1.heap.size) (x1 := .slice (some ⟨v2.heap.size, 0, none⟩) il il) (x2 := .slice (some ⟨v0.heap.size, 0, none⟩) il il) hB3 o2 o5 (by omega) c0 c1 f0 f1 (by omega) (by omega) (by omega)
            (refine keep_one 8 (by kernel_rfl) rfl ?_)
            intro K hK
            go_simp
            refine hK _ _ (fun _ => trivial) ?_
            clear hK K
            (try simp only [Act.put, List.setIfInBounds_toArray, List.set_cons_zero, List.set_cons_succ])
            (refine keep_done (by kernel_rfl) ?_)
            exact ⟨_, _, _, hM, rfl⟩
        · skip
          intro K hK
          go_simp
          obtain ⟨v1, hw1⟩ : ∃ x, x = v0.alloc (.cells #[.slice none 0 0, .slice none 0 0] 25) := ⟨_, rfl⟩
          have g0 : v0.grownBy v1 none := by rw [hw1]; exact World.grownBy_alloc _ _ _
          have c0 : v1.cell? ⟨v0.heap.size, 0, none⟩ = some (.slice none 0 0) := by rw [hw1]; simp [cell_push0]
          have c1 : v1.cell? ⟨v0.heap.size, 1, none⟩ = some (.slice none 0 0) := by rw [hw1]; simp [cell_push0]
          have f0 : v1.frozen? ⟨v0.heap.size, 0, none⟩ = false := by rw [hw1]; simp [free_push0]
          have f1 : v1.frozen? ⟨v0.heap.size, 1, none⟩ = false := by rw [hw1]; simp [free_push0]
          have l7 : v0.heap.size < v1.heap.size := cell_lt c0
          rw [← hw1]
          clear hw1
          have hB1 := hB0.grown g0 hB0.size (fun k e => by cases e)
          refine hK _ _ (fun _ => trivial) ?_
          clear hK K
          (try simp only [Act.put, List.setIfInBounds_toArray, List.set_cons_zero, List.set_cons_succ])
          (refine keep_two 2 5 (by kernel_rfl) rfl rfl ?_ ?_)
          · skip
            intro K hK
            refine step_make_full rfl (.tmp 23) (.tmp 23) 22 rfl w2.heap.size 3 i0 (.int .i64 0) 1 Try.underlying22 hi hz0 hz1 .i64 .i64 _ _ il rfl rfl rfl rfl (by rw [hz2]; omega) (by unfold maxLen; omega) hB1.size ?_
            intro v2 o2 g1
            have hB2 := hB1.grown g1 hB1.size (fun k e => by cases e)
            have l2 : v1.heap.size < v2.heap.size := (World.ownsRow.lt o2 _ rfl).2
            refine hK _ _ (fun _ => trivial) ?_
            clear hK K
            (try simp only [Act.put, List.setIfInBounds_toArray, List.set_cons_zero, List.set_cons_succ])
            (refine keep_one 5 (by kernel_rfl) rfl ?_)
            intro K hK
            refine step_make_full rfl (.tmp 26) (.tmp 26) 23 rfl w2.heap.size 38 j0 (.slice none 0 0) 1 Try.underlying23 hj hy0 hy1 .i64 .i64 _ _ il rfl rfl rfl rfl (by rw [hy2]; omega) (by unfold maxLen; omega) hB2.size ?_
            intro v3 o5 g2
            have hB3 := hB2.grown g2 hB2.size (fun k e => by cases e)
            have l5 : v2.heap.size < v3.heap.size := (World.ownsRow.lt o5 _ rfl).2
            refine hK _ _ (fun _ => trivial) ?_
            clear hK K
            (try simp only [Act.put, List.setIfInBounds_toArray, List.set_cons_zero, List.set_cons_succ])
            (refine keep_pure 6 (v := ?_) rfl (by kernel_rfl) (by kernel_rfl) (by kernel_rfl) (by kernel_rfl) (fun _ _ _ h => h) (Or.inl ⟨by rfl, ?_⟩) (.inr (by trivial)) ?_; rotate_left 1; focus (intro _; go_simp; (try go_ints); try (with_reducible rfl)); (try simp only [Act.put, List.setIfInBounds_toArray, List.set_cons_zero, List.set_cons_succ]))
            replace c0 := g1.cell c0 (by simp)
            replace c1 := g1.cell c1 (by simp)
            replace f0 := (g1.frozen_far ⟨v0.heap.size, 0, none⟩ (by simp; omega) (by simp)).trans f0
            replace f1 := (g1.frozen_far ⟨v0.heap.size, 1, none⟩ (by simp; omega) (by simp)).trans f1
            replace c0 := g2.cell c0 (by simp)
            replace c1 := g2.cell c1 (by simp)
            replace f0 := (g2.frozen_far ⟨v0.heap.size, 0, none⟩ (by simp; omega) (by simp)).trans f0
            replace f1 := (g2.frozen_far ⟨v0.heap.size, 1, none⟩ (by simp; omega) (by simp)).trans f1
            replace o2 := World.ownsRow.kept o2 g2 (.inr (by simp [Value.ownBlock]))
            have s0 := hB0.size
            have s1 := hB1.size
            have s2 := hB2.size
            have hM := made_of (ib := v1.heap.size) (hb := v2.heap.size) (gb := v0.heap.size) (x1 := .slice (some ⟨v1.heap.size, 0, none⟩) il il) (x2 := .slice (some ⟨v2.heap.size, 0, none⟩) il il) hB3 o2 o5 (by omega) c0 c1 f0 f1 (by omega) (by omega) (by omega)
            (refine keep_one 8 (by kernel_rfl) rfl ?_)
            intro K hK
            go_simp
            refine hK _ _ (fun _ => trivial) ?_
            clear hK K
            (try simp only [Act.put, List.setIfInBounds_toArray, List.set_cons_zero, List.set_cons_succ])
            (refine keep_done (by kernel_rfl) ?_)
            exact ⟨_, _, _, hM, rfl⟩
          · skip
            intro K hK
            refine step_make_full rfl (.tmp 26) (.tmp 26) 23 rfl w2.heap.size 38 j0 (.slice none 0 0) 1 Try.underlying23 hj hy0 hy1 .i64 .i64 _ _ il rfl rfl rfl rfl (by rw [hy2]; omega) (by unfold maxLen; omega) hB1.size ?_
            intro v2 o5 g1
            have hB2 := hB1.grown g1 hB1.size (fun k e => by cases e)
            have l5 : v1.heap.size < v2.heap.size := (World.ownsRow.lt o5 _ rfl).2
            refine hK _ _ (fun _ => trivial) ?_
            clear hK K
            (try simp only [Act.put, List.setIfInBounds_toArray, List.set_cons_zero, List.set_cons_succ])
            (refine keep_one 2 (by kernel_rfl) rfl ?_)
            intro K hK
            refine step_make_full rfl (.tmp 23) (.tmp 23) 22 rfl w2.heap.size 3 i0 (.int .i64 0) 1 Try.underlying22 hi hz0 hz1 .i64 .i64 _ _ il rfl rfl rfl rfl (by rw [hz2]; omega) (by unfold maxLen; omega) hB2.size ?_
            intro v3 o2 g2
            have hB3 := hB2.grown g2 hB2.size (fun k e => by cases e)
            have l2 : v2.heap.size < v3.heap.size := (World.ownsRow.lt o2 _ rfl).2
            refine hK _ _ (fun _ => trivial) ?_
            clear hK K
            (try simp only [Act.put, List.setIfInBounds_toArray, List.set_cons_zero, List.set_cons_succ])
            (refine keep_pure 6 (v := ?_) rfl (by kernel_rfl) (by kernel_rfl) (by kernel_rfl) (by kernel_rfl) (fun _ _ _ h => h) (Or.inl ⟨by rfl, ?_⟩) (.inr (by trivial)) ?_; rotate_left 1; focus (intro _; go_simp; (try go_ints); try (with_reducible rfl)); (try simp only [Act.put, List.setIfInBounds_toArray, List.set_cons_zero, List.set_cons_succ]))
            replace c0 := g1.cell c0 (by simp)
            replace c1 := g1.cell c1 (by simp)
            replace f0 := (g1.frozen_far ⟨v0.heap.size, 0, none⟩ (by simp; omega) (by simp)).trans f0
            replace f1 := (g1.frozen_far ⟨v0.heap.size, 1, none⟩ (by simp; omega) (by simp)).trans f1
            replace c0 := g2.cell c0 (by simp)
            replace c1 := g2.cell c1 (by simp)
            replace f0 := (g2.frozen_far ⟨v0.heap.size, 0, none⟩ (by simp; omega) (by simp)).trans f0
            replace f1 := (g2.frozen_far ⟨v0.heap.size, 1, none⟩ (by simp; omega) (by simp)).trans f1
            replace o5 := World.ownsRow.kept o5 g2 (.inr (by simp [Value.ownBlock]))
            have s0 := hB0.size
            have s1 := hB1.size
            have s2 := hB2.size
            have hM := made_of (ib := v2.heap.size) (hb := v1.heap.size) (gb := v0.heap.size) (x1 := .slice (some ⟨v2.heap.size, 0, none⟩) il il) (x2 := .slice (some ⟨v1.heap.size, 0, none⟩) il il) hB3 o2 o5 (by omega) c0 c1 f0 f1 (by omega) (by omega) (by omega)
            (refine keep_one 8 (by kernel_rfl) rfl ?_)
            intro K hK
            go_simp
            refine hK _ _ (fun _ => trivial) ?_
            clear hK K
            (try simp only [Act.put, List.setIfInBounds_toArray, List.set_cons_zero, List.set_cons_succ])
            (refine keep_done (by kernel_rfl) ?_)
            exact ⟨_, _, _, hM, rfl⟩
      rintro a' w3 ⟨ib, hb, gb, hM0, rfl⟩
      (try simp only [Act.put, List.setIfInBounds_toArray, List.set_cons_zero, List.set_cons_succ])
      rw [show List.replicate il (0 : Int) = zsP G zs 0 by rw [zsP_zero, ← HPL.out]] at hM0
      have hs2 := HB2.out.size
      have hs3 := hM0.fr.size
      have HX3 : Hid (Below W.heap.size W w3) := Lib.hid (HB2.out.trans (hM0.fr.mono HB2.out.size))
      have hib : ib < w3.heap.size := (World.ownsRow.lt hM0.ids ib rfl).2
      have hhb : hb < w3.heap.size := (World.ownsRow.lt hM0.hdr hb rfl).2
      have hgb : gb < w3.heap.size := hM0.gt
      have HM0 := Lib.hid hM0
      have HP3 : Hid (PortsAt w3 pa G.ps) := Lib.hid (HGW.out.ports.below HX3.out)
      have bx := (HS.out _ HX3.out).2.1
      clear hM0 hi hz0 hz1 hz2 hj hy0 hy1 hy2
      go_wp2_with (go_at_call 20; refine (copies_any pa il pc G.ps _ HP3.out HPL.out (by omega) HRW.out).mono ?_; rintro e w4 ⟨⟨a3, q3, us0, rfl, hul, hus, hA3⟩, hb4⟩)
      have hM1 := HM0.out.rowsNew hb4 hA3
      rw [usP_zero (G := G) (zs := zs) hus] at hM1
      have hcell : ∀ v u, (us0.map Prod.fst)[v]? = some u → ∃ cb, a3 = some ⟨cb, 0, none⟩ ∧ w4.cell? ⟨cb, v, none⟩ = some u := fun v u hu => by
        have ho : w4.ownsRow w3.heap.size 38 1 (.slice a3 il q3) (us0.map Prod.fst).length (us0.map Prod.fst) := hA3.own (hdrR (.slice a3 il q3) (us0.map Prod.fst)) (by simp)
        obtain ⟨a4, c4, e4, _, p4⟩ := own_slice ho
        injection e4 with e1 e2 e3
        have hlen : (us0.map Prod.fst).length = il := by rw [List.length_map, hul]
        obtain ⟨g, hg, _⟩ := p4 (by omega)
        subst e1
        subst hg
        rw [hlen] at ho
        have := own_cell ho hu
        rw [Nat.zero_add] at this
        exact ⟨g, rfl, this⟩
      obtain ⟨V, hV⟩ : ∃ V : Nat → Value, V = fun v => (us0.getD v (.slice none 0 0, [])).1 := ⟨_, rfl⟩
      have hVat : ∀ v, v < il → (us0.map Prod.fst)[v]? = some (V v) := fun v hv => by
        rw [hV, List.getElem?_map, List.getElem?_eq_getElem (by omega)]
        simp [List.getD, show v < us0.length by omega]
      obtain ⟨cb, rfl, _⟩ := hcell 0 _ (hVat 0 (by omega))
      have hC : ∀ v, v < il → w4.cell? ⟨cb, v, none⟩ = some (V v) := fun v hv => by
        obtain ⟨g, e, h⟩ := hcell v _ (hVat v hv)
        injection e with e
        injection e with e
        rw [e]
        exact h
      have hcb : w3.heap.size ≤ cb ∧ cb < w4.heap.size := World.ownsRow.lt (hA3.own (hdrR (.slice (some ⟨cb, 0, none⟩) il q3) (us0.map Prod.fst)) (by simp)) cb rfl
      have HVO : Hid (∀ v, v < il → ∃ (ga : Option Addr) (gc : Nat), V v = .slice ga (rowA G.ps v).length gc ∧ (0 < (rowA G.ps v).length → ∃ g, ga = some ⟨g, 0, none⟩ ∧ g ≠ cb)) := Lib.hid (fun v hv => by
        have hmem : (us0[v]'(by omega)) ∈ us0 := List.getElem_mem _
        have hv1 : (us0[v]'(by omega)).1 = V v := by
          have := hVat v hv
          rw [List.getElem?_map, List.getElem?_eq_getElem (by omega)] at this
          simpa using this
        have hv2 : (us0[v]'(by omega)).2 = rowA G.ps v := by
          unfold rowA
          rw [← hus]
          simp [List.getD, show v < us0.length by omega]
        have ho : (lnkR (us0[v]'(by omega))).Held w3.heap.size w4 := hA3.own _ (List.mem_cons_of_mem _ (List.mem_map.2 ⟨_, hmem, rfl⟩))
        unfold Rw.Held lnkR at ho
        dsimp only at ho
        rw [hv1, hv2] at ho
        obtain ⟨ga, gc, e, _, hg⟩ := own_slice ho
        refine ⟨ga, gc, e, fun h0 => ?_⟩
        obtain ⟨g, rfl, _⟩ := hg h0
        refine ⟨g, rfl, fun e2 => ?_⟩
        subst e2
        have hs := (List.pairwise_cons.1 hA3.sep).1 (lnkR (us0[v]'(by omega))) (List.mem_map.2 ⟨_, hmem, rfl⟩)
        unfold lnkR hdrR apartV at hs
        dsimp only at hs
        rw [hv1, e] at hs
        simp [Value.ownBlock] at hs)
      rw [← hV] at hM1
      have hs4 := hb4.size
      clear hcell hVat hV hA3 hus hul
      have HM1 := Lib.hid hM1
      have HC := Lib.hid hC
      clear hM1 hC bx hb4
      rw [show (bare il).map Prod.fst = hsP G zs V 0 by rw [hsP_zero, ← HPL.out]] at HM1
      -- what the arguments hold
      obtain ⟨zb, zo, rfl, hzb, hzc⟩ := HZW.out.row (by have := HNZ.out; omega)
      obtain ⟨jb, jo, rfl, hjb, hjc⟩ := HGW.out.ids.row (by have := HIL.out; omega)
      have HZC : Hid (∀ X, Below W.heap.size W X → ∀ k, k < il → X.cell? ⟨zb, zo + k, none⟩ = some (.int .i64 (idA zs k))) := Lib.hid (fun X h k hk => (h.cell (p := ⟨zb, zo + k, none⟩) hzb).trans (hzc k (by have := HNZ.out; omega)))
      have HJC : Hid (∀ X, Below W.heap.size W X → ∀ k, k < il → X.cell? ⟨jb, jo + k, none⟩ = some (.int .i64 (idA G.ids k))) := Lib.hid (fun X h k hk => (h.cell (p := ⟨jb, jo + k, none⟩) hjb).trans (hjc k (by have := HIL.out; omega)))
      clear hzc hjc
      go_loopw [33] (fun t wr => ∃ k : Nat, t = .int .i64 k ∧ k ≤ il ∧ Made w2 gb wr (.slice (some ⟨ib, 0, none⟩) il il) (.slice (some ⟨hb, 0, none⟩) il il) (.slice (some ⟨ib, 0, none⟩) il il) (zsP G zs k) (.slice (some ⟨hb, 0, none⟩) il il) (hsP G zs V k) (usP G zs V k 0) ∧ (∀ v, v < il → wr.cell? ⟨cb, v, none⟩ = some (V v)) ∧ cb < wr.heap.size) (fun t _ => il - (intOf t).toNat)
      case atStart => exact ⟨0, rfl, Nat.zero_le _, HM1.out, HC.out, hcb.2⟩
      case round =>
        clear HM1 HC
        obtain ⟨k, rfl, hk, hM, hC, hcl⟩ := hrel
        have HM := Lib.hid hM
        have HC := Lib.hid hC
        have HX : Hid (Below W.heap.size W wr) := Lib.hid (HB2.out.trans (hM.fr.mono HB2.out.size))
        have hsz := hM.fr.size
        by_cases hlt : k < il
        · have hc3 := hC k hlt
          obtain ⟨ua, uc, hVk, hgk⟩ := HVO.out k hlt
          rw [hVk] at hc3
          have HVK := Lib.hid hVk
          clear hM hC hVk
          have hrow : (rowA G.ps k).length ≤ 24 := by
            have h1 := HPL.out
            have h2 := (HV.out.links k (by omega)).len (by omega)
            omega
          obtain ⟨m, hm⟩ : ∃ m, m = (rowA G.ps k).length := ⟨_, rfl⟩
          have HMl := Lib.hid hm
          rw [← hm] at hrow hc3 hgk
          clear hm
          have hk0 : (0 : Int) ≤ k := by omega
          have hk1 : (k : Int) < il := by omega
          go_wp2
          go_loopw [40] (fun t wz => ∃ i : Nat, t = .int .i64 i ∧ i ≤ m ∧ Made w2 gb wz (.slice (some ⟨ib, 0, none⟩) il il) (.slice (some ⟨hb, 0, none⟩) il il) (.slice (some ⟨ib, 0, none⟩) il il) (zsP G zs k) (.slice (some ⟨hb, 0, none⟩) il il) (hsP G zs V k) (usP G zs V k i) ∧ (∀ v, v < il → wz.cell? ⟨cb, v, none⟩ = some (V v)) ∧ cb < wz.heap.size) (fun t _ => m - (intOf t).toNat)
          case atStart => exact ⟨0, rfl, Nat.zero_le _, HM.out, HC.out, hcl⟩
          case round =>
            clear HM HC hcl HX hsz hc3
            obtain ⟨i, rfl, hi, hM, hC, hcl⟩ := hrel
            have HM := Lib.hid hM
            have HC := Lib.hid hC
            have HX : Hid (Below W.heap.size W wr) := Lib.hid (HB2.out.trans (hM.fr.mono HB2.out.size))
            have hsz := hM.fr.size
            clear hM hC
            by_cases hil : i < m
            · obtain ⟨g, rfl, hgc⟩ := hgk (by omega)
              have hat : (usP G zs V k i)[k]? = some (.slice (some ⟨g, 0, none⟩) m uc, mixR G zs k i k) := by
                rw [usP_at (by rw [← HPL.out]; exact hlt), HVK.out, ← HMl.out]
              have hml : m = (mixR G zs k i k).length := by rw [mixR_len]; exact HMl.out
              obtain ⟨l0, l1, l2, _⟩ := HM.out.linkAt hat hml hil
              obtain ⟨r0, r1⟩ := mixR_read (G := G) (zs := zs) (k := k) (i := i) (by rw [← HMl.out]; exact hil)
              rw [r0] at l0
              rw [r1] at l1
              have hok := HV.out.links k (by rw [← HPL.out]; exact hlt) i (by rw [← HMl.out]; exact hil)
              obtain ⟨to, hto⟩ : ∃ to : Nat, toA (rowA G.ps k) i = to := ⟨(toA (rowA G.ps k) i).toNat, (Int.toNat_of_nonneg hok.1.1).symm⟩
              have htn : to < il := by have := hok.1.2; have := HPL.out; omega
              have HST : Hid ((usP G zs V k i).set k (.slice (some ⟨g, 0, none⟩) m uc, (mixR G zs k i k).set i (idA zs to, wtA (mixR G zs k i k) i)) = usP G zs V k (i + 1)) := Lib.hid (by
                have h := usP_step (G := G) (zs := zs) (V := V) (k := k) (i := i) (by rw [← HPL.out]; exact hlt) (by rw [← HMl.out]; exact hil)
                rw [hto, Int.toNat_natCast, HVK.out, ← HMl.out] at h
                rw [r1]
                exact h)
              rw [hto] at l0
              generalize wtA (rowA G.ps k) i = wt at l1
              have hpt := HZC.out wr HX.out to htn
              obtain ⟨pt, hpt2⟩ : ∃ pt, idA zs to = pt := ⟨_, rfl⟩
              rw [hpt2] at hpt HST
              have HAT := Lib.hid hat
              have HML2 := Lib.hid hml
              clear hok hto r0 r1 hpt2 hat hml
              have hi0 : (0 : Int) ≤ i := by omega
              have hi1 : (i : Int) < m := by omega
              have ht0 : (0 : Int) ≤ to := by omega
              have ht1 : (to : Int) < il := by omega
              have hzlt := HX.out.size
              have hglt := cell_lt l0
              have hgl2 : g < wr.heap.size := hglt
              have hzn : ¬ zb = wr.heap.size := by omega
              have hgn : ¬ g = wr.heap.size := by omega
              have hpa : (wr.alloc (.cells #[.int .i64 (to : Int), .int .i64 wt] 41)).cell? ⟨zb, zo + to, none⟩ = some (.int .i64 pt) := by rw [cell_push0, if_neg hzn]; exact hpt
              have hla : (wr.alloc (.cells #[.int .i64 (to : Int), .int .i64 wt] 41)).cell? ⟨g, i * 2, none⟩ = some (.int .i64 (to : Int)) := by rw [cell_push0, if_neg hgn]; exact l0
              have hlf : (wr.alloc (.cells #[.int .i64 (to : Int), .int .i64 wt] 41)).frozen? ⟨g, i * 2, none⟩ = false := by rw [free_push0, if_neg hgn]; exact l2
              clear hglt
              go_wp2
              have hM2 := (HM.out.storeTo (k := i) HAT.out HML2.out pt).alloc (.cells #[.int .i64 (to : Int), .int .i64 wt] 41)
              rw [HST.out] at hM2
              go_roundw
              case rel =>
                refine ⟨i + 1, by go_num, by omega, hM2, fun v hv => ?_, by simp; omega⟩
                rw [cell_push0, if_neg (by simp; omega), set_other (by intro e; injection e with e1; exact hgc e1)]
                exact HC.out v hv
              case measure => simp [intOf]; omega
            · obtain rfl : i = m := by omega
              obtain ⟨d, hd, hdn⟩ := perm_at HP.out (k := k) (by rw [← HPL.out]; exact hlt)
              rw [← HPL.out] at hdn
              have HD := Lib.hid hd
              have hd0 : (0 : Int) ≤ d := by omega
              have hd1 : (d : Int) < il := by omega
              have HQ : Hid (∀ X, Below w2.heap.size w2 X → X.cell? ⟨zb, zo + k, none⟩ = some (.int .i64 (d : Int)) ∧ X.cell? ⟨w.heap.size, 0, none⟩ = some (.slice (some ⟨jb, jo, none⟩) il ic) ∧ X.cell? ⟨jb, jo + k, none⟩ = some (.int .i64 (idA G.ids k))) := Lib.hid (fun X h => by
                have hb := HB2.out.trans (h.mono HB2.out.size)
                have h1 := HZC.out X hb k hlt
                rw [hd] at h1
                exact ⟨h1, (HS.out X hb).1, HJC.out X hb k hlt⟩)
              clear hd
              obtain ⟨uo, huo⟩ : ∃ u, (hsP G zs V k)[d]? = some u := ⟨_, List.getElem?_eq_getElem (by rw [hsP_len, ← HPL.out]; exact hdn)⟩
              have c0 := HM.out.c0
              have c1 := HM.out.c1
              have z1 := (HM.out.drew).idCell (i := d) (by rw [zsP_len, ← HPL.out]; exact hdn)
              have z2 := (HM.out.drew).idFree d
              have y1 := (HM.out.drew).hdrCell huo
              have y2 := (HM.out.drew).hdrFree d
              have hih : ¬ ib = hb := by
                have h := (List.pairwise_cons.1 HM.out.rows.sep).1 (hdrR (.slice (some ⟨hb, 0, none⟩) il il) (hsP G zs V k)) (by simp)
                unfold idsR hdrR apartV at h
                intro e
                subst e
                simp [Value.ownBlock] at h
              have y3 : (wr.setCell ⟨ib, d, none⟩ (.int .i64 (idA G.ids k))).cell? ⟨hb, d, none⟩ = some uo := by rw [set_other (by intro e; injection e with e1; exact hih e1)]; exact y1
              have y4 : (wr.setCell ⟨ib, d, none⟩ (.int .i64 (idA G.ids k))).frozen? ⟨hb, d, none⟩ = false := by rw [World.frozen?_setCell]; exact y2
              have hhi : ¬ hb = ib := fun e => hih e.symm
              have hci : ¬ ib = cb := by omega
              have hch : ¬ hb = cb := by omega
              clear huo
              have hM9 := (HM.out.setId d (idA G.ids k)).drew
              go_wp2
              refine keep_start (fun w' => w'.cell? ⟨gb, 0, none⟩ = some (.slice (some ⟨ib, 0, none⟩) il il) ∧ w'.cell? ⟨gb, 1, none⟩ = some (.slice (some ⟨hb, 0, none⟩) il il) ∧ w'.cell? ⟨zb, zo + k, none⟩ = some (.int .i64 (d : Int)) ∧ w'.cell? ⟨w.heap.size, 0, none⟩ = some (.slice (some ⟨jb, jo, none⟩) il ic) ∧ w'.cell? ⟨jb, jo + k, none⟩ = some (.int .i64 (idA G.ids k))) [21] (by kernel_rfl) ?_
              (refine keep_pure 0 (v := ?_) rfl (by kernel_rfl) (by kernel_rfl) (by kernel_rfl) (by kernel_rfl) (fun _ _ _ h => h) (Or.inl ⟨by rfl, ?_⟩) (.inr (by exact ⟨HM.out.drew.c0, HM.out.drew.c1, HQ.out _ HM.out.drew.fr⟩)) ?_; rotate_left 1; focus (intro _; go_simp; (try go_ints); try (with_reducible rfl)); (try simp only [Act.put, List.setIfInBounds_toArray, List.set_cons_zero, List.set_cons_succ]))
              (refine keep_pure 2 (v := ?_) rfl (by kernel_rfl) (by kernel_rfl) (by kernel_rfl) (by kernel_rfl) (fun _ _ _ h => h) (Or.inl ⟨by rfl, ?_⟩) (.inr (by exact ⟨HM.out.drew.c0, HM.out.drew.c1, HQ.out _ HM.out.drew.fr⟩)) ?_; rotate_left 1; focus (intro _; go_simp; (try go_ints); try (with_reducible rfl)); (try simp only [Act.put, List.setIfInBounds_toArray, List.set_cons_zero, List.set_cons_succ]))
              (refine keep_pure 3 (v := ?_) rfl (by kernel_rfl) (by kernel_rfl) (by kernel_rfl) (by kernel_rfl) (fun _ _ _ h => h) (Or.inl ⟨by rfl, ?_⟩) (.inr (by exact ⟨HM.out.drew.c0, HM.out.drew.c1, HQ.out _ HM.out.drew.fr⟩)) ?_; rotate_left 1; focus (intro _; go_simp; (try go_ints); try (with_reducible rfl)); (try simp only [Act.put, List.setIfInBounds_toArray, List.set_cons_zero, List.set_cons_succ]))
              (refine keep_pure 4 (v := ?_) rfl (by kernel_rfl) (by kernel_rfl) (by kernel_rfl) (by kernel_rfl) (fun _ _ _ h => h) (Or.inl ⟨by rfl, ?_⟩) (.inr (by exact ⟨HM.out.drew.c0, HM.out.drew.c1, HQ.out _ HM.out.drew.fr⟩)) ?_; rotate_left 1; focus (intro _; go_simp; (try go_ints); try (with_reducible rfl)); (try simp only [Act.put, List.setIfInBounds_toArray, List.set_cons_zero, List.set_cons_succ]))
              (refine keep_pure 6 (v := ?_) rfl (by kernel_rfl) (by kernel_rfl) (by kernel_rfl) (by kernel_rfl) (fun _ _ _ h => h) (Or.inl ⟨by rfl, ?_⟩) (.inr (by exact ⟨HM.out.drew.c0, HM.out.drew.c1, HQ.out _ HM.out.drew.fr⟩)) ?_; rotate_left 1; focus (intro _; go_simp; (try go_ints); try (with_reducible rfl)); (try simp only [Act.put, List.setIfInBounds_toArray, List.set_cons_zero, List.set_cons_succ]))
              (refine keep_pure 8 (v := ?_) rfl (by kernel_rfl) (by kernel_rfl) (by kernel_rfl) (by kernel_rfl) (fun _ _ _ h => h) (Or.inl ⟨by rfl, ?_⟩) (.inr (by exact ⟨HM.out.drew.c0, HM.out.drew.c1, HQ.out _ HM.out.drew.fr⟩)) ?_; rotate_left 1; focus (intro _; go_simp; (try go_ints); try (with_reducible rfl)); (try simp only [Act.put, List.setIfInBounds_toArray, List.set_cons_zero, List.set_cons_succ]))
              (refine keep_pure 9 (v := ?_) rfl (by kernel_rfl) (by kernel_rfl) (by kernel_rfl) (by kernel_rfl) (fun _ _ _ h => h) (Or.inl ⟨by rfl, ?_⟩) (.inr (by exact ⟨HM.out.drew.c0, HM.out.drew.c1, HQ.out _ HM.out.drew.fr⟩)) ?_; rotate_left 1; focus (intro _; go_simp; (try go_ints); try (with_reducible rfl)); (try simp only [Act.put, List.setIfInBounds_toArray, List.set_cons_zero, List.set_cons_succ]))
              (refine keep_pure 10 (v := ?_) rfl (by kernel_rfl) (by kernel_rfl) (by kernel_rfl) (by kernel_rfl) (fun _ _ _ h => h) (Or.inl ⟨by rfl, ?_⟩) (.inr (by exact ⟨HM.out.drew.c0, HM.out.drew.c1, HQ.out _ HM.out.drew.fr⟩)) ?_; rotate_left 1; focus (intro _; go_simp; (try go_ints); try (with_reducible rfl)); (try simp only [Act.put, List.setIfInBounds_toArray, List.set_cons_zero, List.set_cons_succ]))
              (refine keep_pure 12 (v := ?_) rfl (by kernel_rfl) (by kernel_rfl) (by kernel_rfl) (by kernel_rfl) (fun _ _ _ h => h) (Or.inl ⟨by rfl, ?_⟩) (.inr (by exact ⟨HM.out.drew.c0, HM.out.drew.c1, HQ.out _ HM.out.drew.fr⟩)) ?_; rotate_left 1; focus (intro _; go_simp; (try go_ints); try (with_reducible rfl)); (try simp only [Act.put, List.setIfInBounds_toArray, List.set_cons_zero, List.set_cons_succ]))
              (refine keep_pure 14 (v := ?_) rfl (by kernel_rfl) (by kernel_rfl) (by kernel_rfl) (by kernel_rfl) (fun _ _ _ h => h) (Or.inl ⟨by rfl, ?_⟩) (.inr (by exact ⟨HM.out.drew.c0, HM.out.drew.c1, HQ.out _ HM.out.drew.fr⟩)) ?_; rotate_left 1; focus (intro _; go_simp; (try go_ints); try (with_reducible rfl)); (try simp only [Act.put, List.setIfInBounds_toArray, List.set_cons_zero, List.set_cons_succ]))
              (refine keep_pure 17 (v := ?_) rfl (by kernel_rfl) (by kernel_rfl) (by kernel_rfl) (by kernel_rfl) (fun _ _ _ h => h) (Or.inl ⟨by rfl, ?_⟩) (.inr (by exact ⟨HM.out.drew.c0, HM.out.drew.c1, HQ.out _ HM.out.drew.fr⟩)) ?_; rotate_left 1; focus (intro _; go_simp; (try go_ints); try (with_reducible rfl)); (try simp only [Act.put, List.setIfInBounds_toArray, List.set_cons_zero, List.set_cons_succ]))
              (refine keep_load 1 (v := ?_) rfl (by kernel_rfl) (by kernel_rfl) (by kernel_rfl) (by kernel_rfl) (by kernel_rfl) (by kernel_rfl) (fun _ _ _ h => h) (Or.inl ⟨by rfl, ?_⟩) (by exact ⟨HM.out.drew.c0, HM.out.drew.c1, HQ.out _ HM.out.drew.fr⟩) ?_; rotate_left 1; focus (intro _ hSw; (first | (obtain ⟨_, _, _, _, _⟩ := hSw) | (obtain ⟨_, _, _, _⟩ := hSw) | (obtain ⟨_, _, _⟩ := hSw) | (obtain ⟨_, _⟩ := hSw) | skip); go_simp; (try go_ints); try (with_reducible rfl)); (try simp only [Act.put, List.setIfInBounds_toArray, List.set_cons_zero, List.set_cons_succ]))
              (refine keep_load 5 (v := ?_) rfl (by kernel_rfl) (by kernel_rfl) (by kernel_rfl) (by kernel_rfl) (by kernel_rfl) (by kernel_rfl) (fun _ _ _ h => h) (Or.inl ⟨by rfl, ?_⟩) (by exact ⟨HM.out.drew.c0, HM.out.drew.c1, HQ.out _ HM.out.drew.fr⟩) ?_; rotate_left 1; focus (intro _ hSw; (first | (obtain ⟨_, _, _, _, _⟩ := hSw) | (obtain ⟨_, _, _, _⟩ := hSw) | (obtain ⟨_, _, _⟩ := hSw) | (obtain ⟨_, _⟩ := hSw) | skip); go_simp; (try go_ints); try (with_reducible rfl)); (try simp only [Act.put, List.setIfInBounds_toArray, List.set_cons_zero, List.set_cons_succ]))
              (refine keep_load 7 (v := ?_) rfl (by kernel_rfl) (by kernel_rfl) (by kernel_rfl) (by kernel_rfl) (by kernel_rfl) (by kernel_rfl) (fun _ _ _ h => h) (Or.inl ⟨by rfl, ?_⟩) (by exact ⟨HM.out.drew.c0, HM.out.drew.c1, HQ.out _ HM.out.drew.fr⟩) ?_; rotate_left 1; focus (intro _ hSw; (first | (obtain ⟨_, _, _, _, _⟩ := hSw) | (obtain ⟨_, _, _, _⟩ := hSw) | (obtain ⟨_, _, _⟩ := hSw) | (obtain ⟨_, _⟩ := hSw) | skip); go_simp; (try go_ints); try (with_reducible rfl)); (try simp only [Act.put, List.setIfInBounds_toArray, List.set_cons_zero, List.set_cons_succ]))
              (refine keep_load 11 (v := ?_) rfl (by kernel_rfl) (by kernel_rfl) (by kernel_rfl) (by kernel_rfl) (by kernel_rfl) (by kernel_rfl) (fun _ _ _ h => h) (Or.inl ⟨by rfl, ?_⟩) (by exact ⟨HM.out.drew.c0, HM.out.drew.c1, HQ.out _ HM.out.drew.fr⟩) ?_; rotate_left 1; focus (intro _ hSw; (first | (obtain ⟨_, _, _, _, _⟩ := hSw) | (obtain ⟨_, _, _, _⟩ := hSw) | (obtain ⟨_, _, _⟩ := hSw) | (obtain ⟨_, _⟩ := hSw) | skip); go_simp; (try go_ints); try (with_reducible rfl)); (try simp only [Act.put, List.setIfInBounds_toArray, List.set_cons_zero, List.set_cons_succ]))
              (refine keep_load 13 (v := ?_) rfl (by kernel_rfl) (by kernel_rfl) (by kernel_rfl) (by kernel_rfl) (by kernel_rfl) (by kernel_rfl) (fun _ _ _ h => h) (Or.inl ⟨by rfl, ?_⟩) (by exact ⟨HM.out.drew.c0, HM.out.drew.c1, HQ.out _ HM.out.drew.fr⟩) ?_; rotate_left 1; focus (intro _ hSw; (first | (obtain ⟨_, _, _, _, _⟩ := hSw) | (obtain ⟨_, _, _, _⟩ := hSw) | (obtain ⟨_, _, _⟩ := hSw) | (obtain ⟨_, _⟩ := hSw) | skip); go_simp; (try go_ints); try (with_reducible rfl)); (try simp only [Act.put, List.setIfInBounds_toArray, List.set_cons_zero, List.set_cons_succ]))
              (refine keep_pure 15 (v := ?_) rfl (by kernel_rfl) (by kernel_rfl) (by kernel_rfl) (by kernel_rfl) (fun _ _ _ h => h) (Or.inl ⟨by rfl, ?_⟩) (.inr (by exact ⟨HM.out.drew.c0, HM.out.drew.c1, HQ.out _ HM.out.drew.fr⟩)) ?_; rotate_left 1; focus (intro _; go_simp; (try go_ints); try (with_reducible rfl)); (try simp only [Act.put, List.setIfInBounds_toArray, List.set_cons_zero, List.set_cons_succ]))
              (refine keep_load 16 (v := ?_) rfl (by kernel_rfl) (by kernel_rfl) (by kernel_rfl) (by kernel_rfl) (by kernel_rfl) (by kernel_rfl) (fun _ _ _ h => h) (Or.inl ⟨by rfl, ?_⟩) (by exact ⟨HM.out.drew.c0, HM.out.drew.c1, HQ.out _ HM.out.drew.fr⟩) ?_; rotate_left 1; focus (intro _ hSw; (first | (obtain ⟨_, _, _, _, _⟩ := hSw) | (obtain ⟨_, _, _, _⟩ := hSw) | (obtain ⟨_, _, _⟩ := hSw) | (obtain ⟨_, _⟩ := hSw) | skip); go_simp; (try go_ints); try (with_reducible rfl)); (try simp only [Act.put, List.setIfInBounds_toArray, List.set_cons_zero, List.set_cons_succ]))
              (refine keep_pure 18 (v := ?_) rfl (by kernel_rfl) (by kernel_rfl) (by kernel_rfl) (by kernel_rfl) (fun _ _ _ h => h) (Or.inl ⟨by rfl, ?_⟩) (.inr (by exact ⟨HM.out.drew.c0, HM.out.drew.c1, HQ.out _ HM.out.drew.fr⟩)) ?_; rotate_left 1; focus (intro _; go_simp; (try go_ints); try (with_reducible rfl)); (try simp only [Act.put, List.setIfInBounds_toArray, List.set_cons_zero, List.set_cons_succ]))
              (refine keep_one 19 (by kernel_rfl) rfl ?_)
              intro K hK
              go_simp
              refine hK _ _ (fun h => (by exact ⟨hM9.c0, hM9.c1, HQ.out _ hM9.fr⟩)) ?_
              clear hK K
              (try simp only [Act.put, List.setIfInBounds_toArray, List.set_cons_zero, List.set_cons_succ])
              (refine keep_pure 20 (v := ?_) rfl (by kernel_rfl) (by kernel_rfl) (by kernel_rfl) (by kernel_rfl) (fun _ _ _ h => h) (Or.inl ⟨by rfl, ?_⟩) (.inr (by exact ⟨hM9.c0, hM9.c1, HQ.out _ hM9.fr⟩)) ?_; rotate_left 1; focus (intro _; go_simp; (try go_ints); try (with_reducible rfl)); (try simp only [Act.put, List.setIfInBounds_toArray, List.set_cons_zero, List.set_cons_succ]))
              (refine keep_one 21 (by kernel_rfl) rfl ?_)
              intro K hK
              go_simp
              refine hK _ _ (fun h => absurd h (calm_not (by kernel_rfl))) ?_
              clear hK K
              (try simp only [Act.put, List.setIfInBounds_toArray, List.set_cons_zero, List.set_cons_succ])
              (refine keep_done (by kernel_rfl) ?_)
              have hM2 := ((HM.out.setId d (idA G.ids k)).store d (.slice ua i uc)).drew
              rw [zsP_step HP.out (by rw [← HPL.out]; exact hlt) HD.out] at hM2
              have hsp := hsP_step (V := V) HP.out (k := k) (d := d) (by rw [← HPL.out]; exact hlt) HD.out
              have hun := usP_next (G := G) (zs := zs) (V := V) (k := k)
              rw [HVK.out, ← HMl.out] at hsp
              rw [← HMl.out] at hun
              rw [hsp, hun] at hM2
              clear hsp hun
              go_wp2
              go_roundw
              case rel =>
                refine ⟨k + 1, by go_num, by omega, hM2, fun v hv => ?_, by simp; omega⟩
                show ((wr.setCell ⟨ib, d, none⟩ (.int .i64 (idA G.ids k))).setCell ⟨hb, d, none⟩ (.slice ua i uc)).cell? ⟨cb, v, none⟩ = some (V v)
                rw [set_other (by intro e; injection e with e1; exact hch e1), set_other (by intro e; injection e with e1; exact hci e1)]
                exact HC.out v hv
              case measure => simp [intOf]; omega
        · obtain rfl : k = il := by omega
          have g0 := HM.out.c0
          have g1 := HM.out.c1
          have bx := HS.out _ HX.out
          obtain ⟨_, _, e0, e1, e2, e3⟩ := bx
          clear hM hC
          go_wp2
          refine bodyPost_ret (v := .tuple #[.agg #[.slice (some ⟨ib, 0, none⟩) k k, .slice (some ⟨hb, 0, none⟩) k k], .int .i64 0]) (by rw [results_c1 rfl]; go_simp) rfl ?_
          have hM3 := HM.out
          rw [HPL.out, zsP_all HP.out] at hM3
          have hM4 := hM3.turned HP.out
          rw [← usQ_fst HP.out] at hM4
          have hdone := hM4.done (r := w.heap.size + 1) (by omega)
          rw [HO.out]
          refine ⟨⟨some ⟨ib, 0, none⟩, k, k, some ⟨hb, 0, none⟩, k, k, 0, rfl, rfl, usQ G zs V, ?_, usQ_snd.symm, mov_fit ⟨HGW.out.ids.fits, HFit.out⟩ HZF.out HP.out⟩, HM.out.back (HB.out.trans (HB2.out.mono HB.out.size)) (by omega) _ _⟩
          have := (hdone (.slice (some ⟨ib, 0, none⟩) k k) (.slice (some ⟨hb, 0, none⟩) k k)).mono (show w.heap.size ≤ w2.heap.size by omega)
          rw [← HPL.out] at this
          exact this
    · have HO : Hid (movO G zs = .inl 2) := Lib.hid (by unfold movO; rw [if_pos hv, if_neg hp])
      have HP := Lib.hid hp
      clear hp
      go_enter Try.func7, Try.ntmps7
      go_wp2_with (first | (go_at_call 18; (with_reducible refine (valid_any _ _ _ _ _ _ G _ HGX.out).mono ?_); rintro e w1 ⟨rfl, hb1⟩; rw [← HW.out] at hb1; have HB1 := Lib.hid hb1; have bx := HS.out _ hb1; obtain ⟨b0, b1, e0, e1, e2, e3⟩ := bx; clear hb1) | (go_at_call 19; have hpc := permutes_any a c zs pl w1 (HZW.out.below HB1.out) hpl24; rw [← HNZ.out] at hpc; refine hpc.mono ?_; rintro e w2 ⟨⟨bb, rfl, hbb⟩, hb2⟩; obtain rfl : bb = false := (by cases bb; rfl; exact absurd (hbb.1 rfl) (by rw [HPL.out]; exact HP.out)); clear b0 b1 e0 e1 e2 e3 hbb hpc; have HB2 := Lib.hid (HB1.out.trans (hb2.mono HB1.out.size)); have bx := HS.out _ HB2.out; obtain ⟨b0, b1, e0, e1, e2, e3⟩ := bx; clear hb2))
      have HE := Lib.hid (fun u0 u1 => ((HB.out.trans (HB2.out.mono HB.out.size)).setCell (p := ⟨w.heap.size + 1, 0, none⟩) (by simp) u0).setCell (p := ⟨w.heap.size + 1, 1, none⟩) (by simp) u1)
      refine bodyPost_ret (v := .tuple #[.agg #[.slice none 0 0, .slice none 0 0], .int .i64 2]) (by rw [results_c1 rfl]; go_simp) rfl ?_
      rw [HO.out]
      exact ⟨noFam 2 _, HE.out _ _⟩
end Go.Proofs.Ytfbbkiibhdgojaa
