/- What Complete of the specification of layer 3 answers. -/
import Derived.Test.YtkffpipcjdhbaaaRefF0
namespace Go.Proofs.Ytkffpipcjdhbaaa
open Go.RowKit

def compC (k u : Nat) : Bool := u != k
def compG (n : Nat) : Gr := famG n fun k => selR compC k n
def compO (n : Int) : Int ⊕ Gr := if inB n 1 24 then .inr (compG n.toNat) else .inl 2
set_option maxHeartbeats 2000000 in
theorem completeE_any (n : Int) (w : World) (hn : inB n 1 24 = false) :
    Calls Try.prog 19 #[.int .i64 n] w fun e w' => FamOwn w.heap.size (compO n) e w' ∧ Below w.heap.size w w' := by
  have hin := in_any n 1 24
  go_enter Try.func19, Try.ntmps19
  go_wp2_with (go_at_call 43; refine (hin _).mono ?_; rintro e w1 ⟨rfl, rfl⟩)
  refine bodyPost_ret (v := .tuple #[.agg #[.slice none 0 0, .slice none 0 0], .int .i64 2]) (by rw [results_c1 rfl]; go_simp) rfl ?_
  refine ⟨?_, (Below.refl _ _).alloc (Nat.le_refl _) _⟩
  unfold compO
  rw [hn]
  exact noFam 2 _
set_option linter.unusedSimpArgs false in
set_option maxHeartbeats 4000000 in
set_option maxRecDepth 100000 in
theorem completeE_ok (n : Nat) (w : World) (h1 : 1 ≤ n) (h2 : n ≤ 24) :
    Calls Try.prog 19 #[.int .i64 n] w fun e w' => FamOwn w.heap.size (.inr (compG n)) e w' ∧ Below w.heap.size w w' := by
  have hn : inB n 1 24 = true := by unfold inB; simp; omega
  go_enter Try.func19, Try.ntmps19
  go_wp2_with (first | (go_at_call 43; refine (in_any _ _ _ _).mono ?_; rintro e w1 ⟨rfl, rfl⟩) | (go_at_call 44; refine (plain_any n (by omega) _).mono ?_; rintro e w1 ⟨⟨a1, q1, a2, q2, rfl, hA⟩, hb1⟩))
  obtain ⟨W, hW⟩ : ∃ W, W = w.alloc (.cells #[.slice none 0 0, .slice none 0 0] 26) := ⟨_, rfl⟩
  rw [← hW] at hA hb1
  have hWs : W.heap.size = w.heap.size + 1 := by rw [hW]; simp
  have hs1 := hb1.size
  rw [hWs] at hs1
  obtain ⟨a0, _, e2, _, p2⟩ := own_slice (hA.own (hdrR (.slice a2 n q2) ((bare n).map Prod.fst)) (by simp))
  obtain ⟨hb, rfl, _⟩ : ∃ g, a2 = some ⟨g, 0, none⟩ ∧ g < w1.heap.size := by
    injection e2 with e2
    rw [e2]
    exact p2 (by simp [hdrR, bare_len]; omega)
  clear e2 p2
  have hM0 := Made.box (z1 := .slice a1 n q1) (z2 := .slice (some ⟨hb, 0, none⟩) n q2) (t := 26) hA hb1
  clear hA hb1
  have HMs := Lib.hid hM0
  have HW := Lib.hid hW
  clear hM0 hW
  obtain ⟨gb, hgb⟩ : ∃ gb, gb = w1.heap.size := ⟨_, rfl⟩
  rw [← hgb] at HMs hs1
  rw [← hgb]
  clear hgb
  go_loopw [5] (fun t wr => ∃ (k : Nat) (us : List (Value × List (Int × Int))), t = .int .i64 k ∧ k ≤ n ∧ RowsR n (upR (fun k => selR compC k n) k) us ∧ Made W gb wr (.slice a1 n q1) (.slice (some ⟨hb, 0, none⟩) n q2) (.slice a1 n q1) (upTo n) (.slice (some ⟨hb, 0, none⟩) n q2) (us.map Prod.fst) us) (fun t _ => n - (intOf t).toNat)
  case atStart => exact ⟨0, bare n, rfl, Nat.zero_le _, RowsR.bare n _, HMs.out⟩
  case round =>
    obtain ⟨k, us0, rfl, hk, hR, hM⟩ := hrel
    obtain ⟨wr0, hwr0⟩ : ∃ x, x = wr := ⟨_, rfl⟩
    subst hwr0
    have c0 := hM.c0
    have c1 := hM.c1
    have hsz := hM.fr.size
    by_cases hlt : k < n
    · have HRa := Lib.hid hR.begin
      have HMa := Lib.hid hM
      clear hM hR c0
      go_wp2
      obtain ⟨wo, hwo⟩ : ∃ wo : World, wo = wr0 := ⟨_, rfl⟩
      subst hwo
      clear c1 hsz
      go_loopw [6] (fun t wr => ∃ (u : Nat) (us : List (Value × List (Int × Int))), t = .int .i64 u ∧ u ≤ n ∧ RowsR n (upRx (fun k => selR compC k n) k (selR compC k u)) us ∧ Made W gb wr (.slice a1 n q1) (.slice (some ⟨hb, 0, none⟩) n q2) (.slice a1 n q1) (upTo n) (.slice (some ⟨hb, 0, none⟩) n q2) (us.map Prod.fst) us) (fun t _ => n - (intOf t).toNat)
      case atStart => exact ⟨0, us0, rfl, Nat.zero_le _, HRa.out, HMa.out⟩
      case round =>
        clear HMa HRa
        clear us0
        obtain ⟨u, us0, rfl, hu, hR, hM⟩ := hrel
        obtain ⟨wr0, hwr0⟩ : ∃ x, x = wr := ⟨_, rfl⟩
        subst hwr0
        have hsl := selR_len compC k u
        have HM0 := Lib.hid hM
        have HR0 := Lib.hid hR
        clear hM hR
        by_cases hul : u < n
        · by_cases hc : u = k
          · have hcc : compC k u = false := by simp [compC, hc]
            go_wp2
            go_roundw
            case rel => exact ⟨u + 1, us0, by go_num, hul, by rw [selR_skip hcc]; exact HR0.out, HM0.out⟩
            case measure => simp [intOf]; omega
          · have hcc : compC k u = true := by simp [compC, hc]
            have hc' : (u : Int) ≠ k := by omega
            obtain ⟨ua0, uc0, hu0, hh0⟩ := HM0.out.rowX HR0.out hlt
            skip
            have c1_0 := HM0.out.c1
            have ck0 := HM0.out.hdrCell hh0
            have HU0 := Lib.hid hu0
            have HH0 := Lib.hid hh0
            clear hu0 hh0
            go_wp2
            refine keep_start (fun w' => w'.cell? ⟨gb, 1, none⟩ = some (.slice (some ⟨hb, 0, none⟩) n q2) ∧ w'.cell? ⟨hb, k, none⟩ = some (.slice ua0 ((selR compC k u).length) uc0)) [13] (by kernel_rfl) ?_
            (refine keep_pure 0 (v := ?_) rfl (by kernel_rfl) (by kernel_rfl) (by kernel_rfl) (by kernel_rfl) (fun _ _ _ h => h) (Or.inl ⟨by rfl, ?_⟩) (.inr (by exact ⟨HM0.out.c1, HM0.out.hdrCell HH0.out⟩)) ?_; rotate_left 1; focus (intro _; go_simp; (try go_ints); try (with_reducible rfl)); (try simp only [Act.put, List.setIfInBounds_toArray, List.set_cons_zero, List.set_cons_succ]))
            (refine keep_pure 2 (v := ?_) rfl (by kernel_rfl) (by kernel_rfl) (by kernel_rfl) (by kernel_rfl) (fun _ _ _ h => h) (Or.inl ⟨by rfl, ?_⟩) (.inr (by exact ⟨HM0.out.c1, HM0.out.hdrCell HH0.out⟩)) ?_; rotate_left 1; focus (intro _; go_simp; (try go_ints); try (with_reducible rfl)); (try simp only [Act.put, List.setIfInBounds_toArray, List.set_cons_zero, List.set_cons_succ]))
            (refine keep_pure 3 (v := ?_) rfl (by kernel_rfl) (by kernel_rfl) (by kernel_rfl) (by kernel_rfl) (fun _ _ _ h => h) (Or.inl ⟨by rfl, ?_⟩) (.inr (by exact ⟨HM0.out.c1, HM0.out.hdrCell HH0.out⟩)) ?_; rotate_left 1; focus (intro _; go_simp; (try go_ints); try (with_reducible rfl)); (try simp only [Act.put, List.setIfInBounds_toArray, List.set_cons_zero, List.set_cons_succ]))
            (refine keep_pure 5 (v := ?_) rfl (by kernel_rfl) (by kernel_rfl) (by kernel_rfl) (by kernel_rfl) (fun _ _ _ h => h) (Or.inl ⟨by rfl, ?_⟩) (.inr (by exact ⟨HM0.out.c1, HM0.out.hdrCell HH0.out⟩)) ?_; rotate_left 1; focus (intro _; go_simp; (try go_ints); try (with_reducible rfl)); (try simp only [Act.put, List.setIfInBounds_toArray, List.set_cons_zero, List.set_cons_succ]))
            (refine keep_pure 8 (v := ?_) rfl (by kernel_rfl) (by kernel_rfl) (by kernel_rfl) (by kernel_rfl) (fun _ _ _ h => h) (Or.inl ⟨by rfl, ?_⟩) (.inr (by exact ⟨HM0.out.c1, HM0.out.hdrCell HH0.out⟩)) ?_; rotate_left 1; focus (intro _; go_simp; (try go_ints); try (with_reducible rfl)); (try simp only [Act.put, List.setIfInBounds_toArray, List.set_cons_zero, List.set_cons_succ]))
            (refine keep_pure 9 (v := ?_) rfl (by kernel_rfl) (by kernel_rfl) (by kernel_rfl) (by kernel_rfl) (fun _ _ _ h => h) (Or.inl ⟨by rfl, ?_⟩) (.inr (by exact ⟨HM0.out.c1, HM0.out.hdrCell HH0.out⟩)) ?_; rotate_left 1; focus (intro _; go_simp; (try go_ints); try (with_reducible rfl)); (try simp only [Act.put, List.setIfInBounds_toArray, List.set_cons_zero, List.set_cons_succ]))
            (refine keep_load 1 (v := ?_) rfl (by kernel_rfl) (by kernel_rfl) (by kernel_rfl) (by kernel_rfl) (by kernel_rfl) (by kernel_rfl) (fun _ _ _ h => h) (Or.inl ⟨by rfl, ?_⟩) (by exact ⟨HM0.out.c1, HM0.out.hdrCell HH0.out⟩) ?_; rotate_left 1; focus (intro _ hSw; (first | (obtain ⟨_, _, _, _, _⟩ := hSw) | (obtain ⟨_, _, _, _⟩ := hSw) | (obtain ⟨_, _, _⟩ := hSw) | (obtain ⟨_, _⟩ := hSw) | skip); go_simp; (try go_ints); try (with_reducible rfl)); (try simp only [Act.put, List.setIfInBounds_toArray, List.set_cons_zero, List.set_cons_succ]))
            (refine keep_load 4 (v := ?_) rfl (by kernel_rfl) (by kernel_rfl) (by kernel_rfl) (by kernel_rfl) (by kernel_rfl) (by kernel_rfl) (fun _ _ _ h => h) (Or.inl ⟨by rfl, ?_⟩) (by exact ⟨HM0.out.c1, HM0.out.hdrCell HH0.out⟩) ?_; rotate_left 1; focus (intro _ hSw; (first | (obtain ⟨_, _, _, _, _⟩ := hSw) | (obtain ⟨_, _, _, _⟩ := hSw) | (obtain ⟨_, _, _⟩ := hSw) | (obtain ⟨_, _⟩ := hSw) | skip); go_simp; (try go_ints); try (with_reducible rfl)); (try simp only [Act.put, List.setIfInBounds_toArray, List.set_cons_zero, List.set_cons_succ]))
            (refine keep_pure 6 (v := ?_) rfl (by kernel_rfl) (by kernel_rfl) (by kernel_rfl) (by kernel_rfl) (fun _ _ _ h => h) (Or.inl ⟨by rfl, ?_⟩) (.inr (by exact ⟨HM0.out.c1, HM0.out.hdrCell HH0.out⟩)) ?_; rotate_left 1; focus (intro _; go_simp; (try go_ints); try (with_reducible rfl)); (try simp only [Act.put, List.setIfInBounds_toArray, List.set_cons_zero, List.set_cons_succ]))
            (refine keep_load 7 (v := ?_) rfl (by kernel_rfl) (by kernel_rfl) (by kernel_rfl) (by kernel_rfl) (by kernel_rfl) (by kernel_rfl) (fun _ _ _ h => h) (Or.inl ⟨by rfl, ?_⟩) (by exact ⟨HM0.out.c1, HM0.out.hdrCell HH0.out⟩) ?_; rotate_left 1; focus (intro _ hSw; (first | (obtain ⟨_, _, _, _, _⟩ := hSw) | (obtain ⟨_, _, _, _⟩ := hSw) | (obtain ⟨_, _, _⟩ := hSw) | (obtain ⟨_, _⟩ := hSw) | skip); go_simp; (try go_ints); try (with_reducible rfl)); (try simp only [Act.put, List.setIfInBounds_toArray, List.set_cons_zero, List.set_cons_succ]))
            (refine keep_one 10 (by kernel_rfl) rfl ?_)
            intro K hK
            go_simp
            refine hK _ _ (fun h => (by exact ⟨(HM0.out.alloc _).drew.c1, (HM0.out.alloc _).drew.hdrCell HH0.out⟩)) ?_
            clear hK K
            (try simp only [Act.put, List.setIfInBounds_toArray, List.set_cons_zero, List.set_cons_succ])
            (refine keep_one 11 (by kernel_rfl) rfl ?_)
            intro K hK
            (refine step_link rfl (.tmp 33) (.tmp 36) 48 rfl Try.underlying48 wr0.heap.size ((u : Int), 1) k _ _ (by rfl) (by rfl) ((HM0.out.alloc (.cells #[.int .i64 ((u : Int)), .int .i64 1] 50)).drew) HU0.out (by simp [cell_push0]) (by simp [cell_push0]) (by simp; omega) ?_)
            intro g1 cap1 wn1 hMn
            have z0 := hMn.c1
            have z1 := hMn.hdrCell HH0.out
            have z2 := hMn.hdrFree k
            have HN1 := Lib.hid hMn
            clear hMn
            refine hK _ _ (fun h => (by exact ⟨z0, z1⟩)) ?_
            clear hK K
            (try simp only [Act.put, List.setIfInBounds_toArray, List.set_cons_zero, List.set_cons_succ])
            (refine keep_pure 12 (v := ?_) rfl (by kernel_rfl) (by kernel_rfl) (by kernel_rfl) (by kernel_rfl) (fun _ _ _ h => h) (Or.inl ⟨by rfl, ?_⟩) (.inr (by exact ⟨z0, z1⟩)) ?_; rotate_left 1; focus (intro _; go_simp; (try go_ints); try (with_reducible rfl)); (try simp only [Act.put, List.setIfInBounds_toArray, List.set_cons_zero, List.set_cons_succ]))
            (refine keep_one 13 (by kernel_rfl) rfl ?_)
            intro K hK
            go_simp
            refine hK _ _ (fun h => absurd h (calm_not (by kernel_rfl))) ?_
            clear hK K
            (try simp only [Act.put, List.setIfInBounds_toArray, List.set_cons_zero, List.set_cons_succ])
            (refine keep_done (by kernel_rfl) ?_)
            have hM1 := HN1.out.stored
            have hR1 := HR0.out.snoc (.slice (some ⟨g1, 0, none⟩) ((selR compC k u).length + 1) cap1) ((u : Int), 1)
            try simp only [List.nil_append, List.cons_append, List.length_cons, List.length_nil, Nat.zero_add, Nat.reduceAdd] at hM1 hR1
            obtain ⟨wr1, hw1⟩ : ∃ x, x = wn1.setCell ⟨hb, k, none⟩ (.slice (some ⟨g1, 0, none⟩) ((selR compC k u).length + 1) cap1) := ⟨_, rfl⟩
            rw [← hw1] at hM1 ⊢
            clear hw1 z0 z1 z2
            generalize us0.set k _ = us1 at hM1 hR1
            have HM1 := Lib.hid hM1
            have HR1 := Lib.hid hR1
            clear hM1 hR1
            go_wp2
            go_roundw
            case rel => exact ⟨u + 1, _, by go_num, hul, by rw [selR_take hcc]; exact HR1.out, HM1.out⟩
            case measure => simp [intOf]; omega
        · obtain rfl : u = n := by omega
          go_wp2
          go_roundw
          case rel => exact ⟨k + 1, us0, by go_num, hlt, HR0.out.finish rfl, HM0.out⟩
          case measure => simp [intOf]; omega
    · obtain rfl : k = n := by omega
      have far : ∀ i, wr0.cell? ⟨w.heap.size, i, none⟩ = W.cell? ⟨w.heap.size, i, none⟩ := fun i => hM.fr.cell (p := ⟨w.heap.size, i, none⟩) (by simp; omega)
      have farf : ∀ i, wr0.frozen? ⟨w.heap.size, i, none⟩ = W.frozen? ⟨w.heap.size, i, none⟩ := fun i => hM.fr.frozen (p := ⟨w.heap.size, i, none⟩) (by simp; omega)
      have r0 : wr0.cell? ⟨w.heap.size, 0, none⟩ = some (.slice none 0 0) := by rw [far, HW.out]; simp [cell_push0]
      have r1 : wr0.cell? ⟨w.heap.size, 1, none⟩ = some (.slice none 0 0) := by rw [far, HW.out]; simp [cell_push0]
      have q4 : wr0.frozen? ⟨w.heap.size, 0, none⟩ = false := by rw [farf, HW.out]; simp [free_push0]
      have q5 : wr0.frozen? ⟨w.heap.size, 1, none⟩ = false := by rw [farf, HW.out]; simp [free_push0]
      have HM := Lib.hid hM
      have HR := Lib.hid hR
      clear hM hR far farf
      go_wp2
      refine bodyPost_ret (v := .tuple #[.agg #[.slice a1 k q1, .slice (some ⟨hb, 0, none⟩) k q2], .int .i64 0]) (by rw [results_c1 rfl]; go_simp) rfl ?_
      exact fam_done HM.out HR.out HW.out (selR_fit compC k h2) h2
theorem complete_any (n : Int) (w : World) :
    Calls Try.prog 19 #[.int .i64 n] w fun e w' => FamOwn w.heap.size (compO n) e w' ∧ Below w.heap.size w w' := by
  cases hn : inB n 1 24 with
  | false => exact completeE_any n w hn
  | true =>
    have h : 1 ≤ n ∧ n ≤ 24 := by simpa [inB] using hn
    obtain ⟨m, rfl⟩ : ∃ m : Nat, n = m := ⟨n.toNat, by omega⟩
    have := completeE_ok m w (by omega) (by omega)
    unfold compO
    rw [if_pos hn]
    exact this
end Go.Proofs.Ytkffpipcjdhbaaa
