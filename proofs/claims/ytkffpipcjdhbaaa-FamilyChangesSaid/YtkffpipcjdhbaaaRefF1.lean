/- What Path of the specification of layer 3 answers. -/
import Derived.Test.YtkffpipcjdhbaaaRefF0
namespace Go.Proofs.Ytkffpipcjdhbaaa
open Go.RowKit

def pathR (n v : Nat) : List (Int × Int) := (if 0 < v then [((v : Int) - 1, 1)] else []) ++ if v + 1 < n then [((v : Int) + 1, 1)] else []
theorem pathR_fit (n : Nat) (hn : n ≤ 24) : ∀ v, v < n → ∀ x ∈ pathR n v, I64 x.1 ∧ I64 x.2 := by
  intro v hv x hx
  unfold pathR at hx
  rcases List.mem_append.1 hx with hx | hx
  · split at hx
    · obtain rfl : x = _ := by simpa using hx
      exact ⟨⟨by simp; omega, by simp; omega⟩, ⟨by simp, by simp⟩⟩
    · simp at hx
  · split at hx
    · obtain rfl : x = _ := by simpa using hx
      exact ⟨⟨by simp; omega, by simp; omega⟩, ⟨by simp, by simp⟩⟩
    · simp at hx
def pathO (n : Int) : Int ⊕ Gr := if inB n 1 24 then .inr (famG n.toNat (pathR n.toNat)) else .inl 2

set_option maxHeartbeats 2000000 in
theorem pathE_any (n : Int) (w : World) (hn : inB n 1 24 = false) :
    Calls Try.prog 15 #[.int .i64 n] w fun e w' => FamOwn w.heap.size (pathO n) e w' ∧ Below w.heap.size w w' := by
  have hin := in_any n 1 24
  go_enter Try.func15, Try.ntmps15
  go_wp2_with (go_at_call 43; refine (hin _).mono ?_; rintro e w1 ⟨rfl, rfl⟩)
  refine bodyPost_ret (v := .tuple #[.agg #[.slice none 0 0, .slice none 0 0], .int .i64 2]) (by rw [results_c1 rfl]; go_simp) rfl ?_
  refine ⟨?_, (Below.refl _ _).alloc (Nat.le_refl _) _⟩
  unfold pathO
  rw [hn]
  exact noFam 2 _
set_option linter.unusedSimpArgs false in
set_option maxHeartbeats 4000000 in
set_option maxRecDepth 100000 in
theorem pathE_ok (n : Nat) (w : World) (h1 : 1 ≤ n) (h2 : n ≤ 24) :
    Calls Try.prog 15 #[.int .i64 n] w fun e w' => FamOwn w.heap.size (.inr (famG n (pathR n))) e w' ∧ Below w.heap.size w w' := by
  have hn : inB n 1 24 = true := by unfold inB; simp; omega
  go_enter Try.func15, Try.ntmps15
  go_wp2_with (first | (go_at_call 43; refine (in_any _ _ _ _).mono ?_; rintro e w1 ⟨rfl, rfl⟩) | (go_at_call 44; refine (plain_any n (by omega) _).mono ?_; rintro e w1 ⟨⟨a1, q1, a2, q2, rfl, hA⟩, hb1⟩))
  obtain ⟨W, hW⟩ : ∃ W, W = w.alloc (.cells #[.slice none 0 0, .slice none 0 0] 26) := ⟨_, rfl⟩
  rw [← hW] at hA hb1
  have hWs : W.heap.size = w.heap.size + 1 := by rw [hW]; simp
  have hs1 := hb1.size
  rw [hWs] at hs1
  obtain ⟨a0, _, e2, _, p2⟩ := own_slice (hA.own (hdrR (.slice a2 n q2) ((bare n).map Prod.fst)) (by simp))
  obtain ⟨hb, rfl, _⟩ : ∃ g, a2 = some ⟨g, 0, none⟩ ∧ g < w1.heap.size := by
    injection e2 with e2
    rw [e2]
    exact p2 (by simp [hdrR, bare_len]; omega)
  clear e2 p2
  have hM0 := Made.box (z1 := .slice a1 n q1) (z2 := .slice (some ⟨hb, 0, none⟩) n q2) (t := 26) hA hb1
  clear hA hb1
  have HMs := Lib.hid hM0
  have HW := Lib.hid hW
  clear hM0 hW
  obtain ⟨gb, hgb⟩ : ∃ gb, gb = w1.heap.size := ⟨_, rfl⟩
  rw [← hgb] at HMs hs1
  rw [← hgb]
  clear hgb
  go_loopw [5] (fun t wr => ∃ (k : Nat) (us : List (Value × List (Int × Int))), t = .int .i64 k ∧ k ≤ n ∧ RowsR n (upR (pathR n) k) us ∧ Made W gb wr (.slice a1 n q1) (.slice (some ⟨hb, 0, none⟩) n q2) (.slice a1 n q1) (upTo n) (.slice (some ⟨hb, 0, none⟩) n q2) (us.map Prod.fst) us) (fun t _ => n - (intOf t).toNat)
  case atStart => exact ⟨0, bare n, rfl, Nat.zero_le _, RowsR.bare n _, HMs.out⟩
  case round =>
    obtain ⟨k, us0, rfl, hk, hR, hM⟩ := hrel
    obtain ⟨wr0, hwr0⟩ : ∃ x, x = wr := ⟨_, rfl⟩
    subst hwr0
    have c0 := hM.c0
    have c1 := hM.c1
    have hsz := hM.fr.size
    by_cases hlt : k < n
    · have HR0 := Lib.hid hR.begin
      have HM0 := Lib.hid hM
      clear hM hR
      obtain ⟨ua0, uc0, hu0, hh0⟩ := HM0.out.rowX HR0.out hlt
      skip
      have c1_0 := HM0.out.c1
      have ck0 := HM0.out.hdrCell hh0
      have HU0 := Lib.hid hu0
      have HH0 := Lib.hid hh0
      clear hu0 hh0
      by_cases hk0 : 0 < k
      · go_wp2
        refine keep_start (fun w' => w'.cell? ⟨gb, 1, none⟩ = some (.slice (some ⟨hb, 0, none⟩) n q2) ∧ w'.cell? ⟨hb, k, none⟩ = some (.slice ua0 (0) uc0)) [14] (by kernel_rfl) ?_
        (refine keep_pure 0 (v := ?_) rfl (by kernel_rfl) (by kernel_rfl) (by kernel_rfl) (by kernel_rfl) (fun _ _ _ h => h) (Or.inl ⟨by rfl, ?_⟩) (.inr (by exact ⟨HM0.out.c1, HM0.out.hdrCell HH0.out⟩)) ?_; rotate_left 1; focus (intro _; go_simp; (try go_ints); try (with_reducible rfl)); (try simp only [Act.put, List.setIfInBounds_toArray, List.set_cons_zero, List.set_cons_succ]))
        (refine keep_pure 2 (v := ?_) rfl (by kernel_rfl) (by kernel_rfl) (by kernel_rfl) (by kernel_rfl) (fun _ _ _ h => h) (Or.inl ⟨by rfl, ?_⟩) (.inr (by exact ⟨HM0.out.c1, HM0.out.hdrCell HH0.out⟩)) ?_; rotate_left 1; focus (intro _; go_simp; (try go_ints); try (with_reducible rfl)); (try simp only [Act.put, List.setIfInBounds_toArray, List.set_cons_zero, List.set_cons_succ]))
        (refine keep_pure 3 (v := ?_) rfl (by kernel_rfl) (by kernel_rfl) (by kernel_rfl) (by kernel_rfl) (fun _ _ _ h => h) (Or.inl ⟨by rfl, ?_⟩) (.inr (by exact ⟨HM0.out.c1, HM0.out.hdrCell HH0.out⟩)) ?_; rotate_left 1; focus (intro _; go_simp; (try go_ints); try (with_reducible rfl)); (try simp only [Act.put, List.setIfInBounds_toArray, List.set_cons_zero, List.set_cons_succ]))
        (refine keep_pure 5 (v := ?_) rfl (by kernel_rfl) (by kernel_rfl) (by kernel_rfl) (by kernel_rfl) (fun _ _ _ h => h) (Or.inl ⟨by rfl, ?_⟩) (.inr (by exact ⟨HM0.out.c1, HM0.out.hdrCell HH0.out⟩)) ?_; rotate_left 1; focus (intro _; go_simp; (try go_ints); try (with_reducible rfl)); (try simp only [Act.put, List.setIfInBounds_toArray, List.set_cons_zero, List.set_cons_succ]))
        (refine keep_pure 8 (v := ?_) rfl (by kernel_rfl) (by kernel_rfl) (by kernel_rfl) (by kernel_rfl) (fun _ _ _ h => h) (Or.inl ⟨by rfl, ?_⟩) (.inr (by exact ⟨HM0.out.c1, HM0.out.hdrCell HH0.out⟩)) ?_; rotate_left 1; focus (intro _; go_simp; (try go_ints); try (with_reducible rfl)); (try simp only [Act.put, List.setIfInBounds_toArray, List.set_cons_zero, List.set_cons_succ]))
        (refine keep_pure 9 (v := ?_) rfl (by kernel_rfl) (by kernel_rfl) (by kernel_rfl) (by kernel_rfl) (fun _ _ _ h => h) (Or.inl ⟨by rfl, ?_⟩) (.inr (by exact ⟨HM0.out.c1, HM0.out.hdrCell HH0.out⟩)) ?_; rotate_left 1; focus (intro _; go_simp; (try go_ints); try (with_reducible rfl)); (try simp only [Act.put, List.setIfInBounds_toArray, List.set_cons_zero, List.set_cons_succ]))
        (refine keep_pure 10 (v := ?_) rfl (by kernel_rfl) (by kernel_rfl) (by kernel_rfl) (by kernel_rfl) (fun _ _ _ h => h) (Or.inl ⟨by rfl, ?_⟩) (.inr (by exact ⟨HM0.out.c1, HM0.out.hdrCell HH0.out⟩)) ?_; rotate_left 1; focus (intro _; go_simp; (try go_ints); try (with_reducible rfl)); (try simp only [Act.put, List.setIfInBounds_toArray, List.set_cons_zero, List.set_cons_succ]))
        (refine keep_load 1 (v := ?_) rfl (by kernel_rfl) (by kernel_rfl) (by kernel_rfl) (by kernel_rfl) (by kernel_rfl) (by kernel_rfl) (fun _ _ _ h => h) (Or.inl ⟨by rfl, ?_⟩) (by exact ⟨HM0.out.c1, HM0.out.hdrCell HH0.out⟩) ?_; rotate_left 1; focus (intro _ hSw; (first | (obtain ⟨_, _, _, _, _⟩ := hSw) | (obtain ⟨_, _, _, _⟩ := hSw) | (obtain ⟨_, _, _⟩ := hSw) | (obtain ⟨_, _⟩ := hSw) | skip); go_simp; (try go_ints); try (with_reducible rfl)); (try simp only [Act.put, List.setIfInBounds_toArray, List.set_cons_zero, List.set_cons_succ]))
        (refine keep_load 4 (v := ?_) rfl (by kernel_rfl) (by kernel_rfl) (by kernel_rfl) (by kernel_rfl) (by kernel_rfl) (by kernel_rfl) (fun _ _ _ h => h) (Or.inl ⟨by rfl, ?_⟩) (by exact ⟨HM0.out.c1, HM0.out.hdrCell HH0.out⟩) ?_; rotate_left 1; focus (intro _ hSw; (first | (obtain ⟨_, _, _, _, _⟩ := hSw) | (obtain ⟨_, _, _, _⟩ := hSw) | (obtain ⟨_, _, _⟩ := hSw) | (obtain ⟨_, _⟩ := hSw) | skip); go_simp; (try go_ints); try (with_reducible rfl)); (try simp only [Act.put, List.setIfInBounds_toArray, List.set_cons_zero, List.set_cons_succ]))
        (refine keep_pure 6 (v := ?_) rfl (by kernel_rfl) (by kernel_rfl) (by kernel_rfl) (by kernel_rfl) (fun _ _ _ h => h) (Or.inl ⟨by rfl, ?_⟩) (.inr (by exact ⟨HM0.out.c1, HM0.out.hdrCell HH0.out⟩)) ?_; rotate_left 1; focus (intro _; go_simp; (try go_ints); try (with_reducible rfl)); (try simp only [Act.put, List.setIfInBounds_toArray, List.set_cons_zero, List.set_cons_succ]))
        (refine keep_load 7 (v := ?_) rfl (by kernel_rfl) (by kernel_rfl) (by kernel_rfl) (by kernel_rfl) (by kernel_rfl) (by kernel_rfl) (fun _ _ _ h => h) (Or.inl ⟨by rfl, ?_⟩) (by exact ⟨HM0.out.c1, HM0.out.hdrCell HH0.out⟩) ?_; rotate_left 1; focus (intro _ hSw; (first | (obtain ⟨_, _, _, _, _⟩ := hSw) | (obtain ⟨_, _, _, _⟩ := hSw) | (obtain ⟨_, _, _⟩ := hSw) | (obtain ⟨_, _⟩ := hSw) | skip); go_simp; (try go_ints); try (with_reducible rfl)); (try simp only [Act.put, List.setIfInBounds_toArray, List.set_cons_zero, List.set_cons_succ]))
        (refine keep_one 11 (by kernel_rfl) rfl ?_)
        intro K hK
        go_simp
        refine hK _ _ (fun h => (by exact ⟨(HM0.out.alloc _).drew.c1, (HM0.out.alloc _).drew.hdrCell HH0.out⟩)) ?_
        clear hK K
        (try simp only [Act.put, List.setIfInBounds_toArray, List.set_cons_zero, List.set_cons_succ])
        (refine keep_one 12 (by kernel_rfl) rfl ?_)
        intro K hK
        (refine step_link rfl (.tmp 26) (.tmp 30) 48 rfl Try.underlying48 wr0.heap.size ((k : Int) - 1, 1) k _ _ (by rfl) (by rfl) ((HM0.out.alloc (.cells #[.int .i64 ((k : Int) - 1), .int .i64 1] 50)).drew) HU0.out (by simp [cell_push0]) (by simp [cell_push0]) (by simp) ?_)
        intro g1 cap1 wn1 hMn
        have z0 := hMn.c1
        have z1 := hMn.hdrCell HH0.out
        have z2 := hMn.hdrFree k
        have HN1 := Lib.hid hMn
        clear hMn
        refine hK _ _ (fun h => (by exact ⟨z0, z1⟩)) ?_
        clear hK K
        (try simp only [Act.put, List.setIfInBounds_toArray, List.set_cons_zero, List.set_cons_succ])
        (refine keep_pure 13 (v := ?_) rfl (by kernel_rfl) (by kernel_rfl) (by kernel_rfl) (by kernel_rfl) (fun _ _ _ h => h) (Or.inl ⟨by rfl, ?_⟩) (.inr (by exact ⟨z0, z1⟩)) ?_; rotate_left 1; focus (intro _; go_simp; (try go_ints); try (with_reducible rfl)); (try simp only [Act.put, List.setIfInBounds_toArray, List.set_cons_zero, List.set_cons_succ]))
        (refine keep_one 14 (by kernel_rfl) rfl ?_)
        intro K hK
        go_simp
        refine hK _ _ (fun h => absurd h (calm_not (by kernel_rfl))) ?_
        clear hK K
        (try simp only [Act.put, List.setIfInBounds_toArray, List.set_cons_zero, List.set_cons_succ])
        (refine keep_done (by kernel_rfl) ?_)
        have hM1 := HN1.out.stored
        have hR1 := HR0.out.snoc (.slice (some ⟨g1, 0, none⟩) (1) cap1) ((k : Int) - 1, 1)
        try simp only [List.nil_append, List.cons_append, List.length_cons, List.length_nil, Nat.zero_add, Nat.reduceAdd] at hM1 hR1
        obtain ⟨wr1, hw1⟩ : ∃ x, x = wn1.setCell ⟨hb, k, none⟩ (.slice (some ⟨g1, 0, none⟩) (1) cap1) := ⟨_, rfl⟩
        rw [← hw1] at hM1 ⊢
        clear hw1 z0 z1 z2
        generalize us0.set k _ = us1 at hM1 hR1
        have HM1 := Lib.hid hM1
        have HR1 := Lib.hid hR1
        clear hM1 hR1
        by_cases hk1 : k + 1 < n
        · skip
          obtain ⟨ua1, uc1, hu1, hh1⟩ := HM1.out.rowX HR1.out hlt
          simp only [List.nil_append, List.length_cons, List.length_nil, Nat.zero_add] at hu1 hh1
          have c1_1 := HM1.out.c1
          have ck1 := HM1.out.hdrCell hh1
          have HU1 := Lib.hid hu1
          have HH1 := Lib.hid hh1
          clear hu1 hh1
          go_wp2
          refine keep_start (fun w' => w'.cell? ⟨gb, 1, none⟩ = some (.slice (some ⟨hb, 0, none⟩) n q2) ∧ w'.cell? ⟨hb, k, none⟩ = some (.slice ua1 (1) uc1)) [14] (by kernel_rfl) ?_
          (refine keep_pure 0 (v := ?_) rfl (by kernel_rfl) (by kernel_rfl) (by kernel_rfl) (by kernel_rfl) (fun _ _ _ h => h) (Or.inl ⟨by rfl, ?_⟩) (.inr (by exact ⟨HM1.out.c1, HM1.out.hdrCell HH1.out⟩)) ?_; rotate_left 1; focus (intro _; go_simp; (try go_ints); try (with_reducible rfl)); (try simp only [Act.put, List.setIfInBounds_toArray, List.set_cons_zero, List.set_cons_succ]))
          (refine keep_pure 2 (v := ?_) rfl (by kernel_rfl) (by kernel_rfl) (by kernel_rfl) (by kernel_rfl) (fun _ _ _ h => h) (Or.inl ⟨by rfl, ?_⟩) (.inr (by exact ⟨HM1.out.c1, HM1.out.hdrCell HH1.out⟩)) ?_; rotate_left 1; focus (intro _; go_simp; (try go_ints); try (with_reducible rfl)); (try simp only [Act.put, List.setIfInBounds_toArray, List.set_cons_zero, List.set_cons_succ]))
          (refine keep_pure 3 (v := ?_) rfl (by kernel_rfl) (by kernel_rfl) (by kernel_rfl) (by kernel_rfl) (fun _ _ _ h => h) (Or.inl ⟨by rfl, ?_⟩) (.inr (by exact ⟨HM1.out.c1, HM1.out.hdrCell HH1.out⟩)) ?_; rotate_left 1; focus (intro _; go_simp; (try go_ints); try (with_reducible rfl)); (try simp only [Act.put, List.setIfInBounds_toArray, List.set_cons_zero, List.set_cons_succ]))
          (refine keep_pure 5 (v := ?_) rfl (by kernel_rfl) (by kernel_rfl) (by kernel_rfl) (by kernel_rfl) (fun _ _ _ h => h) (Or.inl ⟨by rfl, ?_⟩) (.inr (by exact ⟨HM1.out.c1, HM1.out.hdrCell HH1.out⟩)) ?_; rotate_left 1; focus (intro _; go_simp; (try go_ints); try (with_reducible rfl)); (try simp only [Act.put, List.setIfInBounds_toArray, List.set_cons_zero, List.set_cons_succ]))
          (refine keep_pure 8 (v := ?_) rfl (by kernel_rfl) (by kernel_rfl) (by kernel_rfl) (by kernel_rfl) (fun _ _ _ h => h) (Or.inl ⟨by rfl, ?_⟩) (.inr (by exact ⟨HM1.out.c1, HM1.out.hdrCell HH1.out⟩)) ?_; rotate_left 1; focus (intro _; go_simp; (try go_ints); try (with_reducible rfl)); (try simp only [Act.put, List.setIfInBounds_toArray, List.set_cons_zero, List.set_cons_succ]))
          (refine keep_pure 9 (v := ?_) rfl (by kernel_rfl) (by kernel_rfl) (by kernel_rfl) (by kernel_rfl) (fun _ _ _ h => h) (Or.inl ⟨by rfl, ?_⟩) (.inr (by exact ⟨HM1.out.c1, HM1.out.hdrCell HH1.out⟩)) ?_; rotate_left 1; focus (intro _; go_simp; (try go_ints); try (with_reducible rfl)); (try simp only [Act.put, List.setIfInBounds_toArray, List.set_cons_zero, List.set_cons_succ]))
          (refine keep_pure 10 (v := ?_) rfl (by kernel_rfl) (by kernel_rfl) (by kernel_rfl) (by kernel_rfl) (fun _ _ _ h => h) (Or.inl ⟨by rfl, ?_⟩) (.inr (by exact ⟨HM1.out.c1, HM1.out.hdrCell HH1.out⟩)) ?_; rotate_left 1; focus (intro _; go_simp; (try go_ints); try (with_reducible rfl)); (try simp only [Act.put, List.setIfInBounds_toArray, List.set_cons_zero, List.set_cons_succ]))
          (refine keep_load 1 (v := ?_) rfl (by kernel_rfl) (by kernel_rfl) (by kernel_rfl) (by kernel_rfl) (by kernel_rfl) (by kernel_rfl) (fun _ _ _ h => h) (Or.inl ⟨by rfl, ?_⟩) (by exact ⟨HM1.out.c1, HM1.out.hdrCell HH1.out⟩) ?_; rotate_left 1; focus (intro _ hSw; (first | (obtain ⟨_, _, _, _, _⟩ := hSw) | (obtain ⟨_, _, _, _⟩ := hSw) | (obtain ⟨_, _, _⟩ := hSw) | (obtain ⟨_, _⟩ := hSw) | skip); go_simp; (try go_ints); try (with_reducible rfl)); (try simp only [Act.put, List.setIfInBounds_toArray, List.set_cons_zero, List.set_cons_succ]))
          (refine keep_load 4 (v := ?_) rfl (by kernel_rfl) (by kernel_rfl) (by kernel_rfl) (by kernel_rfl) (by kernel_rfl) (by kernel_rfl) (fun _ _ _ h => h) (Or.inl ⟨by rfl, ?_⟩) (by exact ⟨HM1.out.c1, HM1.out.hdrCell HH1.out⟩) ?_; rotate_left 1; focus (intro _ hSw; (first | (obtain ⟨_, _, _, _, _⟩ := hSw) | (obtain ⟨_, _, _, _⟩ := hSw) | (obtain ⟨_, _, _⟩ := hSw) | (obtain ⟨_, _⟩ := hSw) | skip); go_simp; (try go_ints); try (with_reducible rfl)); (try simp only [Act.put, List.setIfInBounds_toArray, List.set_cons_zero, List.set_cons_succ]))
          (refine keep_pure 6 (v := ?_) rfl (by kernel_rfl) (by kernel_rfl) (by kernel_rfl) (by kernel_rfl) (fun _ _ _ h => h) (Or.inl ⟨by rfl, ?_⟩) (.inr (by exact ⟨HM1.out.c1, HM1.out.hdrCell HH1.out⟩)) ?_; rotate_left 1; focus (intro _; go_simp; (try go_ints); try (with_reducible rfl)); (try simp only [Act.put, List.setIfInBounds_toArray, List.set_cons_zero, List.set_cons_succ]))
          (refine keep_load 7 (v := ?_) rfl (by kernel_rfl) (by kernel_rfl) (by kernel_rfl) (by kernel_rfl) (by kernel_rfl) (by kernel_rfl) (fun _ _ _ h => h) (Or.inl ⟨by rfl, ?_⟩) (by exact ⟨HM1.out.c1, HM1.out.hdrCell HH1.out⟩) ?_; rotate_left 1; focus (intro _ hSw; (first | (obtain ⟨_, _, _, _, _⟩ := hSw) | (obtain ⟨_, _, _, _⟩ := hSw) | (obtain ⟨_, _, _⟩ := hSw) | (obtain ⟨_, _⟩ := hSw) | skip); go_simp; (try go_ints); try (with_reducible rfl)); (try simp only [Act.put, List.setIfInBounds_toArray, List.set_cons_zero, List.set_cons_succ]))
          (refine keep_one 11 (by kernel_rfl) rfl ?_)
          intro K hK
          go_simp
          refine hK _ _ (fun h => (by exact ⟨(HM1.out.alloc _).drew.c1, (HM1.out.alloc _).drew.hdrCell HH1.out⟩)) ?_
          clear hK K
          (try simp only [Act.put, List.setIfInBounds_toArray, List.set_cons_zero, List.set_cons_succ])
          (refine keep_one 12 (by kernel_rfl) rfl ?_)
          intro K hK
          (refine step_link rfl (.tmp 44) (.tmp 48) 48 rfl Try.underlying48 wr1.heap.size ((k : Int) + 1, 1) k _ _ (by rfl) (by rfl) ((HM1.out.alloc (.cells #[.int .i64 ((k : Int) + 1), .int .i64 1] 50)).drew) HU1.out (by simp [cell_push0]) (by simp [cell_push0]) (by simp) ?_)
          intro g2 cap2 wn2 hMn
          have z0 := hMn.c1
          have z1 := hMn.hdrCell HH1.out
          have z2 := hMn.hdrFree k
          have HN2 := Lib.hid hMn
          clear hMn
          refine hK _ _ (fun h => (by exact ⟨z0, z1⟩)) ?_
          clear hK K
          (try simp only [Act.put, List.setIfInBounds_toArray, List.set_cons_zero, List.set_cons_succ])
          (refine keep_pure 13 (v := ?_) rfl (by kernel_rfl) (by kernel_rfl) (by kernel_rfl) (by kernel_rfl) (fun _ _ _ h => h) (Or.inl ⟨by rfl, ?_⟩) (.inr (by exact ⟨z0, z1⟩)) ?_; rotate_left 1; focus (intro _; go_simp; (try go_ints); try (with_reducible rfl)); (try simp only [Act.put, List.setIfInBounds_toArray, List.set_cons_zero, List.set_cons_succ]))
          (refine keep_one 14 (by kernel_rfl) rfl ?_)
          intro K hK
          go_simp
          refine hK _ _ (fun h => absurd h (calm_not (by kernel_rfl))) ?_
          clear hK K
          (try simp only [Act.put, List.setIfInBounds_toArray, List.set_cons_zero, List.set_cons_succ])
          (refine keep_done (by kernel_rfl) ?_)
          have hM2 := HN2.out.stored
          have hR2 := HR1.out.snoc (.slice (some ⟨g2, 0, none⟩) (2) cap2) ((k : Int) + 1, 1)
          try simp only [List.nil_append, List.cons_append, List.length_cons, List.length_nil, Nat.zero_add, Nat.reduceAdd] at hM2 hR2
          obtain ⟨wr2, hw2⟩ : ∃ x, x = wn2.setCell ⟨hb, k, none⟩ (.slice (some ⟨g2, 0, none⟩) (2) cap2) := ⟨_, rfl⟩
          rw [← hw2] at hM2 ⊢
          clear hw2 z0 z1 z2
          generalize us1.set k _ = us2 at hM2 hR2
          have HM2 := Lib.hid hM2
          have HR2 := Lib.hid hR2
          clear hM2 hR2
          go_wp2
          go_roundw
          case rel => exact ⟨k + 1, _, by go_num, hlt, HR2.out.finish (by simp [pathR, hk0, hk1]), HM2.out⟩
          case measure => simp [intOf]; omega
        · skip
          go_wp2
          go_roundw
          case rel => exact ⟨k + 1, _, by go_num, hlt, HR1.out.finish (by simp [pathR, hk0, hk1]), HM1.out⟩
          case measure => simp [intOf]; omega
      · by_cases hk1 : k + 1 < n
        · go_wp2
          refine keep_start (fun w' => w'.cell? ⟨gb, 1, none⟩ = some (.slice (some ⟨hb, 0, none⟩) n q2) ∧ w'.cell? ⟨hb, k, none⟩ = some (.slice ua0 (0) uc0)) [14] (by kernel_rfl) ?_
          (refine keep_pure 0 (v := ?_) rfl (by kernel_rfl) (by kernel_rfl) (by kernel_rfl) (by kernel_rfl) (fun _ _ _ h => h) (Or.inl ⟨by rfl, ?_⟩) (.inr (by exact ⟨HM0.out.c1, HM0.out.hdrCell HH0.out⟩)) ?_; rotate_left 1; focus (intro _; go_simp; (try go_ints); try (with_reducible rfl)); (try simp only [Act.put, List.setIfInBounds_toArray, List.set_cons_zero, List.set_cons_succ]))
          (refine keep_pure 2 (v := ?_) rfl (by kernel_rfl) (by kernel_rfl) (by kernel_rfl) (by kernel_rfl) (fun _ _ _ h => h) (Or.inl ⟨by rfl, ?_⟩) (.inr (by exact ⟨HM0.out.c1, HM0.out.hdrCell HH0.out⟩)) ?_; rotate_left 1; focus (intro _; go_simp; (try go_ints); try (with_reducible rfl)); (try simp only [Act.put, List.setIfInBounds_toArray, List.set_cons_zero, List.set_cons_succ]))
          (refine keep_pure 3 (v := ?_) rfl (by kernel_rfl) (by kernel_rfl) (by kernel_rfl) (by kernel_rfl) (fun _ _ _ h => h) (Or.inl ⟨by rfl, ?_⟩) (.inr (by exact ⟨HM0.out.c1, HM0.out.hdrCell HH0.out⟩)) ?_; rotate_left 1; focus (intro _; go_simp; (try go_ints); try (with_reducible rfl)); (try simp only [Act.put, List.setIfInBounds_toArray, List.set_cons_zero, List.set_cons_succ]))
          (refine keep_pure 5 (v := ?_) rfl (by kernel_rfl) (by kernel_rfl) (by kernel_rfl) (by kernel_rfl) (fun _ _ _ h => h) (Or.inl ⟨by rfl, ?_⟩) (.inr (by exact ⟨HM0.out.c1, HM0.out.hdrCell HH0.out⟩)) ?_; rotate_left 1; focus (intro _; go_simp; (try go_ints); try (with_reducible rfl)); (try simp only [Act.put, List.setIfInBounds_toArray, List.set_cons_zero, List.set_cons_succ]))
          (refine keep_pure 8 (v := ?_) rfl (by kernel_rfl) (by kernel_rfl) (by kernel_rfl) (by kernel_rfl) (fun _ _ _ h => h) (Or.inl ⟨by rfl, ?_⟩) (.inr (by exact ⟨HM0.out.c1, HM0.out.hdrCell HH0.out⟩)) ?_; rotate_left 1; focus (intro _; go_simp; (try go_ints); try (with_reducible rfl)); (try simp only [Act.put, List.setIfInBounds_toArray, List.set_cons_zero, List.set_cons_succ]))
          (refine keep_pure 9 (v := ?_) rfl (by kernel_rfl) (by kernel_rfl) (by kernel_rfl) (by kernel_rfl) (fun _ _ _ h => h) (Or.inl ⟨by rfl, ?_⟩) (.inr (by exact ⟨HM0.out.c1, HM0.out.hdrCell HH0.out⟩)) ?_; rotate_left 1; focus (intro _; go_simp; (try go_ints); try (with_reducible rfl)); (try simp only [Act.put, List.setIfInBounds_toArray, List.set_cons_zero, List.set_cons_succ]))
          (refine keep_pure 10 (v := ?_) rfl (by kernel_rfl) (by kernel_rfl) (by kernel_rfl) (by kernel_rfl) (fun _ _ _ h => h) (Or.inl ⟨by rfl, ?_⟩) (.inr (by exact ⟨HM0.out.c1, HM0.out.hdrCell HH0.out⟩)) ?_; rotate_left 1; focus (intro _; go_simp; (try go_ints); try (with_reducible rfl)); (try simp only [Act.put, List.setIfInBounds_toArray, List.set_cons_zero, List.set_cons_succ]))
          (refine keep_load 1 (v := ?_) rfl (by kernel_rfl) (by kernel_rfl) (by kernel_rfl) (by kernel_rfl) (by kernel_rfl) (by kernel_rfl) (fun _ _ _ h => h) (Or.inl ⟨by rfl, ?_⟩) (by exact ⟨HM0.out.c1, HM0.out.hdrCell HH0.out⟩) ?_; rotate_left 1; focus (intro _ hSw; (first | (obtain ⟨_, _, _, _, _⟩ := hSw) | (obtain ⟨_, _, _, _⟩ := hSw) | (obtain ⟨_, _, _⟩ := hSw) | (obtain ⟨_, _⟩ := hSw) | skip); go_simp; (try go_ints); try (with_reducible rfl)); (try simp only [Act.put, List.setIfInBounds_toArray, List.set_cons_zero, List.set_cons_succ]))
          (refine keep_load 4 (v := ?_) rfl (by kernel_rfl) (by kernel_rfl) (by kernel_rfl) (by kernel_rfl) (by kernel_rfl) (by kernel_rfl) (fun _ _ _ h => h) (Or.inl ⟨by rfl, ?_⟩) (by exact ⟨HM0.out.c1, HM0.out.hdrCell HH0.out⟩) ?_; rotate_left 1; focus (intro _ hSw; (first | (obtain ⟨_, _, _, _, _⟩ := hSw) | (obtain ⟨_, _, _, _⟩ := hSw) | (obtain ⟨_, _, _⟩ := hSw) | (obtain ⟨_, _⟩ := hSw) | skip); go_simp; (try go_ints); try (with_reducible rfl)); (try simp only [Act.put, List.setIfInBounds_toArray, List.set_cons_zero, List.set_cons_succ]))
          (refine keep_pure 6 (v := ?_) rfl (by kernel_rfl) (by kernel_rfl) (by kernel_rfl) (by kernel_rfl) (fun _ _ _ h => h) (Or.inl ⟨by rfl, ?_⟩) (.inr (by exact ⟨HM0.out.c1, HM0.out.hdrCell HH0.out⟩)) ?_; rotate_left 1; focus (intro _; go_simp; (try go_ints); try (with_reducible rfl)); (try simp only [Act.put, List.setIfInBounds_toArray, List.set_cons_zero, List.set_cons_succ]))
          (refine keep_load 7 (v := ?_) rfl (by kernel_rfl) (by kernel_rfl) (by kernel_rfl) (by kernel_rfl) (by kernel_rfl) (by kernel_rfl) (fun _ _ _ h => h) (Or.inl ⟨by rfl, ?_⟩) (by exact ⟨HM0.out.c1, HM0.out.hdrCell HH0.out⟩) ?_; rotate_left 1; focus (intro _ hSw; (first | (obtain ⟨_, _, _, _, _⟩ := hSw) | (obtain ⟨_, _, _, _⟩ := hSw) | (obtain ⟨_, _, _⟩ := hSw) | (obtain ⟨_, _⟩ := hSw) | skip); go_simp; (try go_ints); try (with_reducible rfl)); (try simp only [Act.put, List.setIfInBounds_toArray, List.set_cons_zero, List.set_cons_succ]))
          (refine keep_one 11 (by kernel_rfl) rfl ?_)
          intro K hK
          go_simp
          refine hK _ _ (fun h => (by exact ⟨(HM0.out.alloc _).drew.c1, (HM0.out.alloc _).drew.hdrCell HH0.out⟩)) ?_
          clear hK K
          (try simp only [Act.put, List.setIfInBounds_toArray, List.set_cons_zero, List.set_cons_succ])
          (refine keep_one 12 (by kernel_rfl) rfl ?_)
          intro K hK
          (refine step_link rfl (.tmp 44) (.tmp 48) 48 rfl Try.underlying48 wr0.heap.size ((k : Int) + 1, 1) k _ _ (by rfl) (by rfl) ((HM0.out.alloc (.cells #[.int .i64 ((k : Int) + 1), .int .i64 1] 50)).drew) HU0.out (by simp [cell_push0]) (by simp [cell_push0]) (by simp) ?_)
          intro g1 cap1 wn1 hMn
          have z0 := hMn.c1
          have z1 := hMn.hdrCell HH0.out
          have z2 := hMn.hdrFree k
          have HN1 := Lib.hid hMn
          clear hMn
          refine hK _ _ (fun h => (by exact ⟨z0, z1⟩)) ?_
          clear hK K
          (try simp only [Act.put, List.setIfInBounds_toArray, List.set_cons_zero, List.set_cons_succ])
          (refine keep_pure 13 (v := ?_) rfl (by kernel_rfl) (by kernel_rfl) (by kernel_rfl) (by kernel_rfl) (fun _ _ _ h => h) (Or.inl ⟨by rfl, ?_⟩) (.inr (by exact ⟨z0, z1⟩)) ?_; rotate_left 1; focus (intro _; go_simp; (try go_ints); try (with_reducible rfl)); (try simp only [Act.put, List.setIfInBounds_toArray, List.set_cons_zero, List.set_cons_succ]))
          (refine keep_one 14 (by kernel_rfl) rfl ?_)
          intro K hK
          go_simp
          refine hK _ _ (fun h => absurd h (calm_not (by kernel_rfl))) ?_
          clear hK K
          (try simp only [Act.put, List.setIfInBounds_toArray, List.set_cons_zero, List.set_cons_succ])
          (refine keep_done (by kernel_rfl) ?_)
          have hM1 := HN1.out.stored
          have hR1 := HR0.out.snoc (.slice (some ⟨g1, 0, none⟩) (1) cap1) ((k : Int) + 1, 1)
          try simp only [List.nil_append, List.cons_append, List.length_cons, List.length_nil, Nat.zero_add, Nat.reduceAdd] at hM1 hR1
          obtain ⟨wr1, hw1⟩ : ∃ x, x = wn1.setCell ⟨hb, k, none⟩ (.slice (some ⟨g1, 0, none⟩) (1) cap1) := ⟨_, rfl⟩
          rw [← hw1] at hM1 ⊢
          clear hw1 z0 z1 z2
          generalize us0.set k _ = us1 at hM1 hR1
          have HM1 := Lib.hid hM1
          have HR1 := Lib.hid hR1
          clear hM1 hR1
          go_wp2
          go_roundw
          case rel => exact ⟨k + 1, _, by go_num, hlt, HR1.out.finish (by simp [pathR, hk0, hk1]), HM1.out⟩
          case measure => simp [intOf]; omega
        · skip
          go_wp2
          go_roundw
          case rel => exact ⟨k + 1, _, by go_num, hlt, HR0.out.finish (by simp [pathR, hk0, hk1]), HM0.out⟩
          case measure => simp [intOf]; omega
    · obtain rfl : k = n := by omega
      have far : ∀ i, wr0.cell? ⟨w.heap.size, i, none⟩ = W.cell? ⟨w.heap.size, i, none⟩ := fun i => hM.fr.cell (p := ⟨w.heap.size, i, none⟩) (by simp; omega)
      have farf : ∀ i, wr0.frozen? ⟨w.heap.size, i, none⟩ = W.frozen? ⟨w.heap.size, i, none⟩ := fun i => hM.fr.frozen (p := ⟨w.heap.size, i, none⟩) (by simp; omega)
      have r0 : wr0.cell? ⟨w.heap.size, 0, none⟩ = some (.slice none 0 0) := by rw [far, HW.out]; simp [cell_push0]
      have r1 : wr0.cell? ⟨w.heap.size, 1, none⟩ = some (.slice none 0 0) := by rw [far, HW.out]; simp [cell_push0]
      have q4 : wr0.frozen? ⟨w.heap.size, 0, none⟩ = false := by rw [farf, HW.out]; simp [free_push0]
      have q5 : wr0.frozen? ⟨w.heap.size, 1, none⟩ = false := by rw [farf, HW.out]; simp [free_push0]
      have HM := Lib.hid hM
      have HR := Lib.hid hR
      clear hM hR far farf
      go_wp2
      refine bodyPost_ret (v := .tuple #[.agg #[.slice a1 k q1, .slice (some ⟨hb, 0, none⟩) k q2], .int .i64 0]) (by rw [results_c1 rfl]; go_simp) rfl ?_
      exact fam_done HM.out HR.out HW.out (pathR_fit k h2) h2

theorem path_any (n : Int) (w : World) :
    Calls Try.prog 15 #[.int .i64 n] w fun e w' => FamOwn w.heap.size (pathO n) e w' ∧ Below w.heap.size w w' := by
  cases hn : inB n 1 24 with
  | false => exact pathE_any n w hn
  | true =>
    have h : 1 ≤ n ∧ n ≤ 24 := by simpa [inB] using hn
    obtain ⟨m, rfl⟩ : ∃ m : Nat, n = m := ⟨n.toNat, by omega⟩
    have := pathE_ok m w (by omega) (by omega)
    unfold pathO
    rw [if_pos hn]
    exact this
end Go.Proofs.Ytkffpipcjdhbaaa
