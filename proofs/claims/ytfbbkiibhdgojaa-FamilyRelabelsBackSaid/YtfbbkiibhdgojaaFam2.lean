/- What related of package family answers. -/
import Derived.Test.YtfbbkiibhdgojaaFam1
namespace Go.Proofs.Ytfbbkiibhdgojaa
open Go.RowKit

def relC (near : Nat → Nat → Bool) (k u : Nat) : Bool := u != k && near (min u k) (max u k)
def relG (near : Nat → Nat → Bool) (n : Nat) : Gr := famG n fun k => selR (relC near) k n
def relO (near : Nat → Nat → Bool) (n : Int) : Int ⊕ Gr := if inB n 1 24 then .inr (relG near n.toNat) else .inl 2
/-- the identifiers while they are stored: the first k -/
def idsK (n k : Nat) : List Int := (List.range n).map fun v => if v < k then (v : Int) else 0
theorem idsK_len (n k : Nat) : (idsK n k).length = n := by simp [idsK]
theorem idsK_zero (n : Nat) : idsK n 0 = List.replicate n 0 := by
  refine List.ext_getElem? fun i => ?_
  by_cases h : i < n <;> simp [idsK, h]
theorem idsK_full (n : Nat) : idsK n n = upTo n := by
  unfold idsK upTo
  refine List.map_congr_left fun v hv => ?_
  have : v < n := by simpa using hv
  simp [this]
theorem idsK_set {n k : Nat} (hk : k < n) : (idsK n k).set k (k : Int) = idsK n (k + 1) := by
  refine List.ext_getElem? fun i => ?_
  by_cases e : i = k
  · subst e
    rw [List.getElem?_set_self (by rw [idsK_len]; exact hk)]
    simp [idsK, hk]
  · rw [List.getElem?_set_ne (Ne.symm e)]
    by_cases h : i < n
    · have : (i < k + 1) ↔ (i < k) := by omega
      simp [idsK, h, this]
    · simp [idsK, h]
/-- a function value that answers near: from w on, for two nodes of which the first is the lesser -/
structure NearV (kf : Nat) (cap : Array Value) (near : Nat → Nat → Bool) (n : Nat) (w : World) : Prop where
  ent : Enters Try.prog kf
  says : ∀ (w' : World) (a b : Nat), Below w.heap.size w w' → a < b → b < n → Calls Try.prog kf (#[.int .i64 a, .int .i64 b] ++ cap) w' fun e w'' => e = .returned (.bool (near a b)) ∧ Below w'.heap.size w' w''

set_option maxHeartbeats 2000000 in
theorem relatedE_any (n : Int) (fv : Value) (near : Nat → Nat → Bool) (w : World) (hn : inB n 1 24 = false) :
    Calls Try.prog 29 #[.int .i64 n, fv] w fun e w' => FamOwn w.heap.size (relO near n) e w' ∧ Below w.heap.size w w' := by
  have hin := fsize_any n
  go_enter Try.func29, Try.ntmps29
  go_wp2_with (go_at_call 37; refine (hin _).mono ?_; rintro e w1 ⟨rfl, rfl⟩)
  refine bodyPost_ret (v := .tuple #[.agg #[.slice none 0 0, .slice none 0 0], .int .i64 2]) (by rw [results_c1 rfl]; go_simp) rfl ?_
  refine ⟨?_, (Below.refl _ _).alloc (Nat.le_refl _) _⟩
  unfold relO
  rw [hn]
  exact ⟨none, 0, 0, none, 0, 0, 2, rfl, rfl, rfl, rfl⟩
set_option linter.unusedSimpArgs false in
set_option maxHeartbeats 4000000 in
set_option maxRecDepth 100000 in
theorem relatedE_ok (n : Nat) (kf : Nat) (cap : Array Value) (near : Nat → Nat → Bool) (w : World) (h1 : 1 ≤ n) (h2 : n ≤ 24) (hN : NearV kf cap near n w) :
    Calls Try.prog 29 #[.int .i64 n, .func (Fn.func kf) #[] cap] w fun e w' => FamOwn w.heap.size (.inr (relG near n)) e w' ∧ Below w.heap.size w w' := by
  have hn : inB n 1 24 = true := by unfold inB; simp; omega
  have hin := fsize_any n
  obtain ⟨i0, hi, hz0, hz1, hz2⟩ := info_parts info3
  obtain ⟨j0, hj, hy0, hy1, hy2⟩ := info_parts infoHdr
  go_enter Try.func29, Try.ntmps29
  go_wp2_with (go_at_call 37; refine (hin _).mono ?_; rintro e w1 ⟨rfl, rfl⟩)
  obtain ⟨W, hW⟩ : ∃ W, W = w.alloc (.cells #[.slice none 0 0, .slice none 0 0] 25) := ⟨_, rfl⟩
  rw [← hW]
  have hWs : W.heap.size = w.heap.size + 1 := by rw [hW]; simp
  clear hin
  refine keep_join (fun a a' w' => ∃ ib hb gb, Made W gb w' (.slice (some ⟨ib, 0, none⟩) n n) (.slice (some ⟨hb, 0, none⟩) n n) (.slice (some ⟨ib, 0, none⟩) n n) (List.replicate n 0) (.slice (some ⟨hb, 0, none⟩) n n) ((bare n).map Prod.fst) (bare n) ∧
    a' = (((((a.put (some 13) (.int .i64 n)).put (some 14) (.slice (some ⟨ib, 0, none⟩) n n)).put (some 15) (.int .i64 n)).put (some 16) (.slice (some ⟨hb, 0, none⟩) n n)).put (some 17) (.agg #[.slice (some ⟨ib, 0, none⟩) n n, .slice (some ⟨hb, 0, none⟩) n n])).put (some 6) (.pointer (some ⟨gb, 0, none⟩))) ?_ ?_
  · refine keep_start (fun _ => True) [] (by kernel_rfl) ?_
    (refine keep_pure 0 (v := ?_) rfl (by kernel_rfl) (by kernel_rfl) (by kernel_rfl) (by kernel_rfl) (fun _ _ _ h => h) (Or.inl ⟨by rfl, ?_⟩) (.inr (by trivial)) ?_; rotate_left 1; focus (intro _; go_simp; (try go_ints); try (with_reducible rfl)); (try simp only [Act.put, List.setIfInBounds_toArray, List.set_cons_zero, List.set_cons_succ]))
    (refine keep_pure 2 (v := ?_) rfl (by kernel_rfl) (by kernel_rfl) (by kernel_rfl) (by kernel_rfl) (fun _ _ _ h => h) (Or.inl ⟨by rfl, ?_⟩) (.inr (by trivial)) ?_; rotate_left 1; focus (intro _; go_simp; (try go_ints); try (with_reducible rfl)); (try simp only [Act.put, List.setIfInBounds_toArray, List.set_cons_zero, List.set_cons_succ]))
    obtain ⟨w0, hw0⟩ : ∃ x, x = W.drew := ⟨_, rfl⟩
    rw [← hw0]
    have hB0 : Below W.heap.size W w0 := by rw [hw0]; exact belDraws (Below.refl _ _) 1
    clear hw0
    refine keep_three 1 3 5 (by kernel_rfl) rfl rfl rfl ?_ ?_ ?_
    · skip
      intro K hK
      refine step_make_full rfl (.tmp 13) (.tmp 13) 22 rfl W.heap.size 3 i0 (.int .i64 0) 1 Try.underlying22 hi hz0 hz1 .i64 .i64 _ _ n rfl rfl rfl rfl (by rw [hz2]; omega) (by unfold maxLen; omega) hB0.size ?_
      intro w1 o1 g0
      have hB1 := hB0.grown g0 hB0.size (fun k e => by cases e)
      have l1 : w0.heap.size < w1.heap.size := (World.ownsRow.lt o1 _ rfl).2
      refine hK _ _ (fun _ => trivial) ?_
      clear hK K
      (try simp only [Act.put, List.setIfInBounds_toArray, List.set_cons_zero, List.set_cons_succ])
      (refine keep_two 3 5 (by kernel_rfl) rfl rfl ?_ ?_)
      · skip
        intro K hK
        refine step_make_full rfl (.tmp 15) (.tmp 15) 23 rfl W.heap.size 38 j0 (.slice none 0 0) 1 Try.underlying23 hj hy0 hy1 .i64 .i64 _ _ n rfl rfl rfl rfl (by rw [hy2]; omega) (by unfold maxLen; omega) hB1.size ?_
        intro w2 o3 g1
        have hB2 := hB1.grown g1 hB1.size (fun k e => by cases e)
        have l3 : w1.heap.size < w2.heap.size := (World.ownsRow.lt o3 _ rfl).2
        refine hK _ _ (fun _ => trivial) ?_
        clear hK K
        (try simp only [Act.put, List.setIfInBounds_toArray, List.set_cons_zero, List.set_cons_succ])
        (refine keep_pure 4 (v := ?_) rfl (by kernel_rfl) (by kernel_rfl) (by kernel_rfl) (by kernel_rfl) (fun _ _ _ h => h) (Or.inl ⟨by rfl, ?_⟩) (.inr (by trivial)) ?_; rotate_left 1; focus (intro _; go_simp; (try go_ints); try (with_reducible rfl)); (try simp only [Act.put, List.setIfInBounds_toArray, List.set_cons_zero, List.set_cons_succ]))
        (refine keep_one 5 (by kernel_rfl) rfl ?_)
        intro K hK
        go_simp
        obtain ⟨w3, hw3⟩ : ∃ x, x = w2.alloc (.cells #[.slice none 0 0, .slice none 0 0] 25) := ⟨_, rfl⟩
        have g2 : w2.grownBy w3 none := by rw [hw3]; exact World.grownBy_alloc _ _ _
        have c0 : w3.cell? ⟨w2.heap.size, 0, none⟩ = some (.slice none 0 0) := by rw [hw3]; simp [cell_push0]
        have c1 : w3.cell? ⟨w2.heap.size, 1, none⟩ = some (.slice none 0 0) := by rw [hw3]; simp [cell_push0]
        have f0 : w3.frozen? ⟨w2.heap.size, 0, none⟩ = false := by rw [hw3]; simp [free_push0]
        have f1 : w3.frozen? ⟨w2.heap.size, 1, none⟩ = false := by rw [hw3]; simp [free_push0]
        have l5 : w2.heap.size < w3.heap.size := cell_lt c0
        rw [← hw3]
        clear hw3
        have hB3 := hB2.grown g2 hB2.size (fun k e => by cases e)
        refine hK _ _ (fun _ => trivial) ?_
        clear hK K
        (try simp only [Act.put, List.setIfInBounds_toArray, List.set_cons_zero, List.set_cons_succ])
        replace o1 := World.ownsRow.kept o1 g1 (.inr (by simp [Value.ownBlock]))
        replace o1 := World.ownsRow.kept o1 g2 (.inr (by simp [Value.ownBlock]))
        replace o3 := World.ownsRow.kept o3 g2 (.inr (by simp [Value.ownBlock]))
        have s0 := hB0.size
        have s1 := hB1.size
        have s2 := hB2.size
        have hM := made_of (ib := w0.heap.size) (hb := w1.heap.size) (gb := w2.heap.size) (x1 := .slice (some ⟨w0.heap.size, 0, none⟩) n n) (x2 := .slice (some ⟨w1.heap.size, 0, none⟩) n n) hB3 o1 o3 (by omega) c0 c1 f0 f1 (by omega) (by omega) (by omega)
        (refine keep_one 6 (by kernel_rfl) rfl ?_)
        intro K hK
        go_simp
        refine hK _ _ (fun _ => trivial) ?_
        clear hK K
        (try simp only [Act.put, List.setIfInBounds_toArray, List.set_cons_zero, List.set_cons_succ])
        (refine keep_done (by kernel_rfl) ?_)
        exact ⟨_, _, _, hM, rfl⟩
      · skip
        intro K hK
        go_simp
        obtain ⟨w2, hw2⟩ : ∃ x, x = w1.alloc (.cells #[.slice none 0 0, .slice none 0 0] 25) := ⟨_, rfl⟩
        have g1 : w1.grownBy w2 none := by rw [hw2]; exact World.grownBy_alloc _ _ _
        have c0 : w2.cell? ⟨w1.heap.size, 0, none⟩ = some (.slice none 0 0) := by rw [hw2]; simp [cell_push0]
        have c1 : w2.cell? ⟨w1.heap.size, 1, none⟩ = some (.slice none 0 0) := by rw [hw2]; simp [cell_push0]
        have f0 : w2.frozen? ⟨w1.heap.size, 0, none⟩ = false := by rw [hw2]; simp [free_push0]
        have f1 : w2.frozen? ⟨w1.heap.size, 1, none⟩ = false := by rw [hw2]; simp [free_push0]
        have l5 : w1.heap.size < w2.heap.size := cell_lt c0
        rw [← hw2]
        clear hw2
        have hB2 := hB1.grown g1 hB1.size (fun k e => by cases e)
        refine hK _ _ (fun _ => trivial) ?_
        clear hK K
        (try simp only [Act.put, List.setIfInBounds_toArray, List.set_cons_zero, List.set_cons_succ])
        (refine keep_one 3 (by kernel_rfl) rfl ?_)
        intro K hK
        refine step_make_full rfl (.tmp 15) (.tmp 15) 23 rfl W.heap.size 38 j0 (.slice none 0 0) 1 Try.underlying23 hj hy0 hy1 .i64 .i64 _ _ n rfl rfl rfl rfl (by rw [hy2]; omega) (by unfold maxLen; omega) hB2.size ?_
        intro w3 o3 g2
        have hB3 := hB2.grown g2 hB2.size (fun k e => by cases e)
        have l3 : w2.heap.size < w3.heap.size := (World.ownsRow.lt o3 _ rfl).2
        refine hK _ _ (fun _ => trivial) ?_
        clear hK K
        (try simp only [Act.put, List.setIfInBounds_toArray, List.set_cons_zero, List.set_cons_succ])
        (refine keep_pure 4 (v := ?_) rfl (by kernel_rfl) (by kernel_rfl) (by kernel_rfl) (by kernel_rfl) (fun _ _ _ h => h) (Or.inl ⟨by rfl, ?_⟩) (.inr (by trivial)) ?_; rotate_left 1; focus (intro _; go_simp; (try go_ints); try (with_reducible rfl)); (try simp only [Act.put, List.setIfInBounds_toArray, List.set_cons_zero, List.set_cons_succ]))
        replace o1 := World.ownsRow.kept o1 g1 (.inr (by simp [Value.ownBlock]))
        replace o1 := World.ownsRow.kept o1 g2 (.inr (by simp [Value.ownBlock]))
        replace c0 := g2.cell c0 (by simp)
        replace c1 := g2.cell c1 (by simp)
        replace f0 := (g2.frozen_far ⟨w1.heap.size, 0, none⟩ (by simp; omega) (by simp)).trans f0
        replace f1 := (g2.frozen_far ⟨w1.heap.size, 1, none⟩ (by simp; omega) (by simp)).trans f1
        have s0 := hB0.size
        have s1 := hB1.size
        have s2 := hB2.size
        have hM := made_of (ib := w0.heap.size) (hb := w2.heap.size) (gb := w1.heap.size) (x1 := .slice (some ⟨w0.heap.size, 0, none⟩) n n) (x2 := .slice (some ⟨w2.heap.size, 0, none⟩) n n) hB3 o1 o3 (by omega) c0 c1 f0 f1 (by omega) (by omega) (by omega)
        (refine keep_one 6 (by kernel_rfl) rfl ?_)
        intro K hK
        go_simp
        refine hK _ _ (fun _ => trivial) ?_
        clear hK K
        (try simp only [Act.put, List.setIfInBounds_toArray, List.set_cons_zero, List.set_cons_succ])
        (refine keep_done (by kernel_rfl) ?_)
        exact ⟨_, _, _, hM, rfl⟩
    · skip
      intro K hK
      refine step_make_full rfl (.tmp 15) (.tmp 15) 23 rfl W.heap.size 38 j0 (.slice none 0 0) 1 Try.underlying23 hj hy0 hy1 .i64 .i64 _ _ n rfl rfl rfl rfl (by rw [hy2]; omega) (by unfold maxLen; omega) hB0.size ?_
      intro w1 o3 g0
      have hB1 := hB0.grown g0 hB0.size (fun k e => by cases e)
      have l3 : w0.heap.size < w1.heap.size := (World.ownsRow.lt o3 _ rfl).2
      refine hK _ _ (fun _ => trivial) ?_
      clear hK K
      (try simp only [Act.put, List.setIfInBounds_toArray, List.set_cons_zero, List.set_cons_succ])
      (refine keep_two 1 5 (by kernel_rfl) rfl rfl ?_ ?_)
      · skip
        intro K hK
        refine step_make_full rfl (.tmp 13) (.tmp 13) 22 rfl W.heap.size 3 i0 (.int .i64 0) 1 Try.underlying22 hi hz0 hz1 .i64 .i64 _ _ n rfl rfl rfl rfl (by rw [hz2]; omega) (by unfold maxLen; omega) hB1.size ?_
        intro w2 o1 g1
        have hB2 := hB1.grown g1 hB1.size (fun k e => by cases e)
        have l1 : w1.heap.size < w2.heap.size := (World.ownsRow.lt o1 _ rfl).2
        refine hK _ _ (fun _ => trivial) ?_
        clear hK K
        (try simp only [Act.put, List.setIfInBounds_toArray, List.set_cons_zero, List.set_cons_succ])
        (refine keep_pure 4 (v := ?_) rfl (by kernel_rfl) (by kernel_rfl) (by kernel_rfl) (by kernel_rfl) (fun _ _ _ h => h) (Or.inl ⟨by rfl, ?_⟩) (.inr (by trivial)) ?_; rotate_left 1; focus (intro _; go_simp; (try go_ints); try (with_reducible rfl)); (try simp only [Act.put, List.setIfInBounds_toArray, List.set_cons_zero, List.set_cons_succ]))
        (refine keep_one 5 (by kernel_rfl) rfl ?_)
        intro K hK
        go_simp
        obtain ⟨w3, hw3⟩ : ∃ x, x = w2.alloc (.cells #[.slice none 0 0, .slice none 0 0] 25) := ⟨_, rfl⟩
        have g2 : w2.grownBy w3 none := by rw [hw3]; exact World.grownBy_alloc _ _ _
        have c0 : w3.cell? ⟨w2.heap.size, 0, none⟩ = some (.slice none 0 0) := by rw [hw3]; simp [cell_push0]
        have c1 : w3.cell? ⟨w2.heap.size, 1, none⟩ = some (.slice none 0 0) := by rw [hw3]; simp [cell_push0]
        have f0 : w3.frozen? ⟨w2.heap.size, 0, none⟩ = false := by rw [hw3]; simp [free_push0]
        have f1 : w3.frozen? ⟨w2.heap.size, 1, none⟩ = false := by rw [hw3]; simp [free_push0]
        have l5 : w2.heap.size < w3.heap.size := cell_lt c0
        rw [← hw3]
        clear hw3
        have hB3 := hB2.grown g2 hB2.size (fun k e => by cases e)
        refine hK _ _ (fun _ => trivial) ?_
        clear hK K
        (try simp only [Act.put, List.setIfInBounds_toArray, List.set_cons_zero, List.set_cons_succ])
        replace o3 := World.ownsRow.kept o3 g1 (.inr (by simp [Value.ownBlock]))
        replace o3 := World.ownsRow.kept o3 g2 (.inr (by simp [Value.ownBlock]))
        replace o1 := World.ownsRow.kept o1 g2 (.inr (by simp [Value.ownBlock]))
        have s0 := hB0.size
        have s1 := hB1.size
        have s2 := hB2.size
        have hM := made_of (ib := w1.heap.size) (hb := w0.heap.size) (gb := w2.heap.size) (x1 := .slice (some ⟨w1.heap.size, 0, none⟩) n n) (x2 := .slice (some ⟨w0.heap.size, 0, none⟩) n n) hB3 o1 o3 (by omega) c0 c1 f0 f1 (by omega) (by omega) (by omega)
        (refine keep_one 6 (by kernel_rfl) rfl ?_)
        intro K hK
        go_simp
        refine hK _ _ (fun _ => trivial) ?_
        clear hK K
        (try simp only [Act.put, List.setIfInBounds_toArray, List.set_cons_zero, List.set_cons_succ])
        (refine keep_done (by kernel_rfl) ?_)
        exact ⟨_, _, _, hM, rfl⟩
      · skip
        intro K hK
        go_simp
        obtain ⟨w2, hw2⟩ : ∃ x, x = w1.alloc (.cells #[.slice none 0 0, .slice none 0 0] 25) := ⟨_, rfl⟩
        have g1 : w1.grownBy w2 none := by rw [hw2]; exact World.grownBy_alloc _ _ _
        have c0 : w2.cell? ⟨w1.heap.size, 0, none⟩ = some (.slice none 0 0) := by rw [hw2]; simp [cell_push0]
        have c1 : w2.cell? ⟨w1.heap.size, 1, none⟩ = some (.slice none 0 0) := by rw [hw2]; simp [cell_push0]
        have f0 : w2.frozen? ⟨w1.heap.size, 0, none⟩ = false := by rw [hw2]; simp [free_push0]
        have f1 : w2.frozen? ⟨w1.heap.size, 1, none⟩ = false := by rw [hw2]; simp [free_push0]
        have l5 : w1.heap.size < w2.heap.size := cell_lt c0
        rw [← hw2]
        clear hw2
        have hB2 := hB1.grown g1 hB1.size (fun k e => by cases e)
        refine hK _ _ (fun _ => trivial) ?_
        clear hK K
        (try simp only [Act.put, List.setIfInBounds_toArray, List.set_cons_zero, List.set_cons_succ])
        (refine keep_one 1 (by kernel_rfl) rfl ?_)
        intro K hK
        refine step_make_full rfl (.tmp 13) (.tmp 13) 22 rfl W.heap.size 3 i0 (.int .i64 0) 1 Try.underlying22 hi hz0 hz1 .i64 .i64 _ _ n rfl rfl rfl rfl (by rw [hz2]; omega) (by unfold maxLen; omega) hB2.size ?_
        intro w3 o1 g2
        have hB3 := hB2.grown g2 hB2.size (fun k e => by cases e)
        have l1 : w2.heap.size < w3.heap.size := (World.ownsRow.lt o1 _ rfl).2
        refine hK _ _ (fun _ => trivial) ?_
        clear hK K
        (try simp only [Act.put, List.setIfInBounds_toArray, List.set_cons_zero, List.set_cons_succ])
        (refine keep_pure 4 (v := ?_) rfl (by kernel_rfl) (by kernel_rfl) (by kernel_rfl) (by kernel_rfl) (fun _ _ _ h => h) (Or.inl ⟨by rfl, ?_⟩) (.inr (by trivial)) ?_; rotate_left 1; focus (intro _; go_simp; (try go_ints); try (with_reducible rfl)); (try simp only [Act.put, List.setIfInBounds_toArray, List.set_cons_zero, List.set_cons_succ]))
        replace o3 := World.ownsRow.kept o3 g1 (.inr (by simp [Value.ownBlock]))
        replace o3 := World.ownsRow.kept o3 g2 (.inr (by simp [Value.ownBlock]))
        replace c0 := g2.cell c0 (by simp)
        replace c1 := g2.cell c1 (by simp)
        replace f0 := (g2.frozen_far ⟨w1.heap.size, 0, none⟩ (by simp; omega) (by simp)).trans f0
        replace f1 := (g2.frozen_far ⟨w1.heap.size, 1, none⟩ (by simp; omega) (by simp)).trans f1
        have s0 := hB0.size
        have s1 := hB1.size
        have s2 := hB2.size
        have hM := made_of (ib := w2.heap.size) (hb := w0.heap.size) (gb := w1.heap.size) (x1 := .slice (some ⟨w2.heap.size, 0, none⟩) n n) (x2 := .slice (some ⟨w0.heap.size, 0, none⟩) n n) hB3 o1 o3 (by omega) c0 c1 f0 f1 (by omega) (by omega) (by omega)
        (refine keep_one 6 (by kernel_rfl) rfl ?_)
        intro K hK
        go_simp
        refine hK _ _ (fun _ => trivial) ?_
        clear hK K
        (try simp only [Act.put, List.setIfInBounds_toArray, List.set_cons_zero, List.set_cons_succ])
        (refine keep_done (by kernel_rfl) ?_)
        exact ⟨_, _, _, hM, rfl⟩
    · skip
      intro K hK
      go_simp
      obtain ⟨w1, hw1⟩ : ∃ x, x = w0.alloc (.cells #[.slice none 0 0, .slice none 0 0] 25) := ⟨_, rfl⟩
      have g0 : w0.grownBy w1 none := by rw [hw1]; exact World.grownBy_alloc _ _ _
      have c0 : w1.cell? ⟨w0.heap.size, 0, none⟩ = some (.slice none 0 0) := by rw [hw1]; simp [cell_push0]
      have c1 : w1.cell? ⟨w0.heap.size, 1, none⟩ = some (.slice none 0 0) := by rw [hw1]; simp [cell_push0]
      have f0 : w1.frozen? ⟨w0.heap.size, 0, none⟩ = false := by rw [hw1]; simp [free_push0]
      have f1 : w1.frozen? ⟨w0.heap.size, 1, none⟩ = false := by rw [hw1]; simp [free_push0]
      have l5 : w0.heap.size < w1.heap.size := cell_lt c0
      rw [← hw1]
      clear hw1
      have hB1 := hB0.grown g0 hB0.size (fun k e => by cases e)
      refine hK _ _ (fun _ => trivial) ?_
      clear hK K
      (try simp only [Act.put, List.setIfInBounds_toArray, List.set_cons_zero, List.set_cons_succ])
      (refine keep_two 1 3 (by kernel_rfl) rfl rfl ?_ ?_)
      · skip
        intro K hK
        refine step_make_full rfl (.tmp 13) (.tmp 13) 22 rfl W.heap.size 3 i0 (.int .i64 0) 1 Try.underlying22 hi hz0 hz1 .i64 .i64 _ _ n rfl rfl rfl rfl (by rw [hz2]; omega) (by unfold maxLen; omega) hB1.size ?_
        intro w2 o1 g1
        have hB2 := hB1.grown g1 hB1.size (fun k e => by cases e)
        have l1 : w1.heap.size < w2.heap.size := (World.ownsRow.lt o1 _ rfl).2
        refine hK _ _ (fun _ => trivial) ?_
        clear hK K
        (try simp only [Act.put, List.setIfInBounds_toArray, List.set_cons_zero, List.set_cons_succ])
        (refine keep_one 3 (by kernel_rfl) rfl ?_)
        intro K hK
        refine step_make_full rfl (.tmp 15) (.tmp 15) 23 rfl W.heap.size 38 j0 (.slice none 0 0) 1 Try.underlying23 hj hy0 hy1 .i64 .i64 _ _ n rfl rfl rfl rfl (by rw [hy2]; omega) (by unfold maxLen; omega) hB2.size ?_
        intro w3 o3 g2
        have hB3 := hB2.grown g2 hB2.size (fun k e => by cases e)
        have l3 : w2.heap.size < w3.heap.size := (World.ownsRow.lt o3 _ rfl).2
        refine hK _ _ (fun _ => trivial) ?_
        clear hK K
        (try simp only [Act.put, List.setIfInBounds_toArray, List.set_cons_zero, List.set_cons_succ])
        (refine keep_pure 4 (v := ?_) rfl (by kernel_rfl) (by kernel_rfl) (by kernel_rfl) (by kernel_rfl) (fun _ _ _ h => h) (Or.inl ⟨by rfl, ?_⟩) (.inr (by trivial)) ?_; rotate_left 1; focus (intro _; go_simp; (try go_ints); try (with_reducible rfl)); (try simp only [Act.put, List.setIfInBounds_toArray, List.set_cons_zero, List.set_cons_succ]))
        replace c0 := g1.cell c0 (by simp)
        replace c1 := g1.cell c1 (by simp)
        replace f0 := (g1.frozen_far ⟨w0.heap.size, 0, none⟩ (by simp; omega) (by simp)).trans f0
        replace f1 := (g1.frozen_far ⟨w0.heap.size, 1, none⟩ (by simp; omega) (by simp)).trans f1
        replace c0 := g2.cell c0 (by simp)
        replace c1 := g2.cell c1 (by simp)
        replace f0 := (g2.frozen_far ⟨w0.heap.size, 0, none⟩ (by simp; omega) (by simp)).trans f0
        replace f1 := (g2.frozen_far ⟨w0.heap.size, 1, none⟩ (by simp; omega) (by simp)).trans f1
        replace o1 := World.ownsRow.kept o1 g2 (.inr (by simp [Value.ownBlock]))
        have s0 := hB0.size
        have s1 := hB1.size
        have s2 := hB2.size
        have hM := made_of (ib := w1.heap.size) (hb := w2.heap.size) (gb := w0.heap.size) (x1 := .slice (some ⟨w1.heap.size, 0, none⟩) n n) (x2 := .slice (some ⟨w2.heap.size, 0, none⟩) n n) hB3 o1 o3 (by omega) c0 c1 f0 f1 (by omega) (by omega) (by omega)
        (refine keep_one 6 (by kernel_rfl) rfl ?_)
        intro K hK
        go_simp
        refine hK _ _ (fun _ => trivial) ?_
        clear hK K
        (try simp only [Act.put, List.setIfInBounds_toArray, List.set_cons_zero, List.set_cons_succ])
        (refine keep_done (by kernel_rfl) ?_)
        exact ⟨_, _, _, hM, rfl⟩
      · skip
        intro K hK
        refine step_make_full rfl (.tmp 15) (.tmp 15) 23 rfl W.heap.size 38 j0 (.slice none 0 0) 1 Try.underlying23 hj hy0 hy1 .i64 .i64 _ _ n rfl rfl rfl rfl (by rw [hy2]; omega) (by unfold maxLen; omega) hB1.size ?_
        intro w2 o3 g1
        have hB2 := hB1.grown g1 hB1.size (fun k e => by cases e)
        have l3 : w1.heap.size < w2.heap.size := (World.ownsRow.lt o3 _ rfl).2
        refine hK _ _ (fun _ => trivial) ?_
        clear hK K
        (try simp only [Act.put, List.setIfInBounds_toArray, List.set_cons_zero, List.set_cons_succ])
        (refine keep_one 1 (by kernel_rfl) rfl ?_)
        intro K hK
        refine step_make_full rfl (.tmp 13) (.tmp 13) 22 rfl W.heap.size 3 i0 (.int .i64 0) 1 Try.underlying22 hi hz0 hz1 .i64 .i64 _ _ n rfl rfl rfl rfl (by rw [hz2]; omega) (by unfold maxLen; omega) hB2.size ?_
        intro w3 o1 g2
        have hB3 := hB2.grown g2 hB2.size (fun k e => by cases e)
        have l1 : w2.heap.size < w3.heap.size := (World.ownsRow.lt o1 _ rfl).2
        refine hK _ _ (fun _ => trivial) ?_
        clear hK K
        (try simp only [Act.put, List.setIfInBounds_toArray, List.set_cons_zero, List.set_cons_succ])
        (refine keep_pure 4 (v := ?_) rfl (by kernel_rfl) (by kernel_rfl) (by kernel_rfl) (by kernel_rfl) (fun _ _ _ h => h) (Or.inl ⟨by rfl, ?_⟩) (.inr (by trivial)) ?_; rotate_left 1; focus (intro _; go_simp; (try go_ints); try (with_reducible rfl)); (try simp only [Act.put, List.setIfInBounds_toArray, List.set_cons_zero, List.set_cons_succ]))
        replace c0 := g1.cell c0 (by simp)
        replace c1 := g1.cell c1 (by simp)
        replace f0 := (g1.frozen_far ⟨w0.heap.size, 0, none⟩ (by simp; omega) (by simp)).trans f0
        replace f1 := (g1.frozen_far ⟨w0.heap.size, 1, none⟩ (by simp; omega) (by simp)).trans f1
        replace c0 := g2.cell c0 (by simp)
        replace c1 := g2.cell c1 (by simp)
        replace f0 := (g2.frozen_far ⟨w0.heap.size, 0, none⟩ (by simp; omega) (by simp)).trans f0
        replace f1 := (g2.frozen_far ⟨w0.heap.size, 1, none⟩ (by simp; omega) (by simp)).trans f1
        replace o3 := World.ownsRow.kept o3 g2 (.inr (by simp [Value.ownBlock]))
        have s0 := hB0.size
        have s1 := hB1.size
        have s2 := hB2.size
        have hM := made_of (ib := w2.heap.size) (hb := w1.heap.size) (gb := w0.heap.size) (x1 := .slice (some ⟨w2.heap.size, 0, none⟩) n n) (x2 := .slice (some ⟨w1.heap.size, 0, none⟩) n n) hB3 o1 o3 (by omega) c0 c1 f0 f1 (by omega) (by omega) (by omega)
        (refine keep_one 6 (by kernel_rfl) rfl ?_)
        intro K hK
        go_simp
        refine hK _ _ (fun _ => trivial) ?_
        clear hK K
        (try simp only [Act.put, List.setIfInBounds_toArray, List.set_cons_zero, List.set_cons_succ])
        (refine keep_done (by kernel_rfl) ?_)
        exact ⟨_, _, _, hM, rfl⟩
  · rintro a' w' ⟨ib, hb, gb, hM0, rfl⟩
    (try simp only [Act.put, List.setIfInBounds_toArray, List.set_cons_zero, List.set_cons_succ])
    rw [← idsK_zero] at hM0
    have HMs := Lib.hid hM0
    have HW := Lib.hid hW
    have HN := Lib.hid hN
    clear hM0 hW hN hi hz0 hz1 hz2 hj hy0 hy1 hy2
    go_wp2
    go_loopw [19] (fun t wr => ∃ (k : Nat) (us : List (Value × List (Int × Int))), t = .int .i64 k ∧ k ≤ n ∧ RowsR n (upR (fun k => selR (relC near) k n) k) us ∧ Made W gb wr (.slice (some ⟨ib, 0, none⟩) n n) (.slice (some ⟨hb, 0, none⟩) n n) (.slice (some ⟨ib, 0, none⟩) n n) (idsK n k) (.slice (some ⟨hb, 0, none⟩) n n) (us.map Prod.fst) us) (fun t _ => n - (intOf t).toNat)
    case atStart => exact ⟨0, bare n, rfl, Nat.zero_le _, RowsR.bare n _, HMs.out⟩
    case round =>
      obtain ⟨k, us0, rfl, hk, hR, hM⟩ := hrel
      obtain ⟨wr0, hwr0⟩ : ∃ x, x = wr := ⟨_, rfl⟩
      subst hwr0
      have c0 := hM.c0
      have c1 := hM.c1
      have hsz := hM.fr.size
      by_cases hlt : k < n
      · have HRa := Lib.hid hR.begin
        have i0 := hM.idCell (i := k) (by rw [idsK_len]; exact hlt)
        have i1 := hM.idFree k
        have hM1 := hM.setId k k
        rw [idsK_set hlt] at hM1
        have HMa := Lib.hid hM1
        clear hM hM1 hR
        go_wp2
        obtain ⟨wo, hwo⟩ : ∃ wo : World, wo = wr0.setCell ⟨ib, k, none⟩ (.int .i64 k) := ⟨_, rfl⟩
        rw [← hwo] at HMa ⊢
        clear c0 c1 i0 i1 hsz hwo
        go_loopw [28] (fun t wr => ∃ (u : Nat) (us : List (Value × List (Int × Int))), t = .int .i64 u ∧ u ≤ n ∧ RowsR n (upRx (fun k => selR (relC near) k n) k (selR (relC near) k u)) us ∧ Made W gb wr (.slice (some ⟨ib, 0, none⟩) n n) (.slice (some ⟨hb, 0, none⟩) n n) (.slice (some ⟨ib, 0, none⟩) n n) (idsK n (k + 1)) (.slice (some ⟨hb, 0, none⟩) n n) (us.map Prod.fst) us) (fun t _ => n - (intOf t).toNat)
        case atStart => exact ⟨0, us0, rfl, Nat.zero_le _, HRa.out, HMa.out⟩
        case round =>
          clear HMa HRa
          clear us0
          obtain ⟨u, us0, rfl, hu, hR, hM⟩ := hrel
          obtain ⟨wr0, hwr0⟩ : ∃ x, x = wr := ⟨_, rfl⟩
          subst hwr0
          have hsl := selR_len (relC near) k u
          have HM0 := Lib.hid hM
          have HR0 := Lib.hid hR
          clear hM hR
          by_cases hul : u < n
          · by_cases hc : u = k
            · have hcc : relC near k u = false := by simp [relC, hc]
              have hc' : ((u : Int) == k) = true := by simp [hc]
              go_wp2
              go_roundw
              case rel => exact ⟨u + 1, us0, by go_num, hul, by rw [selR_skip hcc]; exact HR0.out, HM0.out⟩
              case measure => simp [intOf]; omega
            · have hc' : ((u : Int) == k) = false := by simp; omega
              rcases Nat.lt_or_gt_of_ne hc with hlk | hlk
              · have hcc : relC near k u = near u k := by
                  have e1 : min u k = u := by omega
                  have e2 : max u k = k := by omega
                  simp [relC, hc, e1, e2]
                have hng : ¬ k < u := by omega
                have hWb : Below w.heap.size w W := by rw [HW.out]; exact (Below.refl _ _).alloc (Nat.le_refl _) _
                have HWb := Lib.hid hWb
                clear hWb
                have hen : ∀ (args : Array Value) (w : World), (callFunc kf args).run Try.prog w = .ok (.enter kf args) w := HN.out.ent
                cases hr : near u k with
                | false =>
                  rw [hr] at hcc
                  have Hcc := Lib.hid hcc
                  clear hcc
                  go_wp2_with (go_at_fn kf; refine (HN.out.says _ u k (HWb.out.trans (HM0.out.fr.mono (by omega))) hlk hlt).mono ?_; rw [hr]; rintro e w2 ⟨rfl, hb2⟩)
                  go_roundw
                  case rel => exact ⟨u + 1, us0, by go_num, hul, by rw [selR_skip Hcc.out]; exact HR0.out, HM0.out.below hb2⟩
                  case measure => simp [intOf]; omega
                | true =>
                  rw [hr] at hcc
                  have Hcc := Lib.hid hcc
                  clear hcc
                  go_wp2_with (go_at_fn kf; refine (HN.out.says _ u k (HWb.out.trans (HM0.out.fr.mono (by omega))) hlk hlt).mono ?_; rw [hr]; rintro e w2 ⟨rfl, hb2⟩; have hM3 := HM0.out.below hb2; have HM3 := Lib.hid hM3; clear hb2 hM3 HM0; have HM0 := HM3; clear HM3; (try clear wr0); obtain ⟨wr0, hwr0⟩ : ∃ x, x = w2 := ⟨_, rfl⟩; subst hwr0; obtain ⟨ua0, uc0, hu0, hh0⟩ := HM0.out.rowX HR0.out hlt; have c1_0 := HM0.out.c1; have ck0 := HM0.out.hdrCell hh0; have HU0 := Lib.hid hu0; have HH0 := Lib.hid hh0; clear hu0 hh0)
                  refine keep_start (fun w' => w'.cell? ⟨gb, 1, none⟩ = some (.slice (some ⟨hb, 0, none⟩) n n) ∧ w'.cell? ⟨hb, k, none⟩ = some (.slice ua0 ((selR (relC near) k u).length) uc0)) [13] (by kernel_rfl) ?_
                  (refine keep_pure 0 (v := ?_) rfl (by kernel_rfl) (by kernel_rfl) (by kernel_rfl) (by kernel_rfl) (fun _ _ _ h => h) (Or.inl ⟨by rfl, ?_⟩) (.inr (by exact ⟨HM0.out.c1, HM0.out.hdrCell HH0.out⟩)) ?_; rotate_left 1; focus (intro _; go_simp; (try go_ints); try (with_reducible rfl)); (try simp only [Act.put, List.setIfInBounds_toArray, List.set_cons_zero, List.set_cons_succ]))
                  (refine keep_pure 2 (v := ?_) rfl (by kernel_rfl) (by kernel_rfl) (by kernel_rfl) (by kernel_rfl) (fun _ _ _ h => h) (Or.inl ⟨by rfl, ?_⟩) (.inr (by exact ⟨HM0.out.c1, HM0.out.hdrCell HH0.out⟩)) ?_; rotate_left 1; focus (intro _; go_simp; (try go_ints); try (with_reducible rfl)); (try simp only [Act.put, List.setIfInBounds_toArray, List.set_cons_zero, List.set_cons_succ]))
                  (refine keep_pure 3 (v := ?_) rfl (by kernel_rfl) (by kernel_rfl) (by kernel_rfl) (by kernel_rfl) (fun _ _ _ h => h) (Or.inl ⟨by rfl, ?_⟩) (.inr (by exact ⟨HM0.out.c1, HM0.out.hdrCell HH0.out⟩)) ?_; rotate_left 1; focus (intro _; go_simp; (try go_ints); try (with_reducible rfl)); (try simp only [Act.put, List.setIfInBounds_toArray, List.set_cons_zero, List.set_cons_succ]))
                  (refine keep_pure 5 (v := ?_) rfl (by kernel_rfl) (by kernel_rfl) (by kernel_rfl) (by kernel_rfl) (fun _ _ _ h => h) (Or.inl ⟨by rfl, ?_⟩) (.inr (by exact ⟨HM0.out.c1, HM0.out.hdrCell HH0.out⟩)) ?_; rotate_left 1; focus (intro _; go_simp; (try go_ints); try (with_reducible rfl)); (try simp only [Act.put, List.setIfInBounds_toArray, List.set_cons_zero, List.set_cons_succ]))
                  (refine keep_pure 8 (v := ?_) rfl (by kernel_rfl) (by kernel_rfl) (by kernel_rfl) (by kernel_rfl) (fun _ _ _ h => h) (Or.inl ⟨by rfl, ?_⟩) (.inr (by exact ⟨HM0.out.c1, HM0.out.hdrCell HH0.out⟩)) ?_; rotate_left 1; focus (intro _; go_simp; (try go_ints); try (with_reducible rfl)); (try simp only [Act.put, List.setIfInBounds_toArray, List.set_cons_zero, List.set_cons_succ]))
                  (refine keep_pure 9 (v := ?_) rfl (by kernel_rfl) (by kernel_rfl) (by kernel_rfl) (by kernel_rfl) (fun _ _ _ h => h) (Or.inl ⟨by rfl, ?_⟩) (.inr (by exact ⟨HM0.out.c1, HM0.out.hdrCell HH0.out⟩)) ?_; rotate_left 1; focus (intro _; go_simp; (try go_ints); try (with_reducible rfl)); (try simp only [Act.put, List.setIfInBounds_toArray, List.set_cons_zero, List.set_cons_succ]))
                  (refine keep_load 1 (v := ?_) rfl (by kernel_rfl) (by kernel_rfl) (by kernel_rfl) (by kernel_rfl) (by kernel_rfl) (by kernel_rfl) (fun _ _ _ h => h) (Or.inl ⟨by rfl, ?_⟩) (by exact ⟨HM0.out.c1, HM0.out.hdrCell HH0.out⟩) ?_; rotate_left 1; focus (intro _ hSw; (first | (obtain ⟨_, _, _, _, _⟩ := hSw) | (obtain ⟨_, _, _, _⟩ := hSw) | (obtain ⟨_, _, _⟩ := hSw) | (obtain ⟨_, _⟩ := hSw) | skip); go_simp; (try go_ints); try (with_reducible rfl)); (try simp only [Act.put, List.setIfInBounds_toArray, List.set_cons_zero, List.set_cons_succ]))
                  (refine keep_load 4 (v := ?_) rfl (by kernel_rfl) (by kernel_rfl) (by kernel_rfl) (by kernel_rfl) (by kernel_rfl) (by kernel_rfl) (fun _ _ _ h => h) (Or.inl ⟨by rfl, ?_⟩) (by exact ⟨HM0.out.c1, HM0.out.hdrCell HH0.out⟩) ?_; rotate_left 1; focus (intro _ hSw; (first | (obtain ⟨_, _, _, _, _⟩ := hSw) | (obtain ⟨_, _, _, _⟩ := hSw) | (obtain ⟨_, _, _⟩ := hSw) | (obtain ⟨_, _⟩ := hSw) | skip); go_simp; (try go_ints); try (with_reducible rfl)); (try simp only [Act.put, List.setIfInBounds_toArray, List.set_cons_zero, List.set_cons_succ]))
                  (refine keep_pure 6 (v := ?_) rfl (by kernel_rfl) (by kernel_rfl) (by kernel_rfl) (by kernel_rfl) (fun _ _ _ h => h) (Or.inl ⟨by rfl, ?_⟩) (.inr (by exact ⟨HM0.out.c1, HM0.out.hdrCell HH0.out⟩)) ?_; rotate_left 1; focus (intro _; go_simp; (try go_ints); try (with_reducible rfl)); (try simp only [Act.put, List.setIfInBounds_toArray, List.set_cons_zero, List.set_cons_succ]))
                  (refine keep_load 7 (v := ?_) rfl (by kernel_rfl) (by kernel_rfl) (by kernel_rfl) (by kernel_rfl) (by kernel_rfl) (by kernel_rfl) (fun _ _ _ h => h) (Or.inl ⟨by rfl, ?_⟩) (by exact ⟨HM0.out.c1, HM0.out.hdrCell HH0.out⟩) ?_; rotate_left 1; focus (intro _ hSw; (first | (obtain ⟨_, _, _, _, _⟩ := hSw) | (obtain ⟨_, _, _, _⟩ := hSw) | (obtain ⟨_, _, _⟩ := hSw) | (obtain ⟨_, _⟩ := hSw) | skip); go_simp; (try go_ints); try (with_reducible rfl)); (try simp only [Act.put, List.setIfInBounds_toArray, List.set_cons_zero, List.set_cons_succ]))
                  (refine keep_one 10 (by kernel_rfl) rfl ?_)
                  intro K hK
                  go_simp
                  refine hK _ _ (fun h => (by exact ⟨(HM0.out.alloc _).drew.c1, (HM0.out.alloc _).drew.hdrCell HH0.out⟩)) ?_
                  clear hK K
                  (try simp only [Act.put, List.setIfInBounds_toArray, List.set_cons_zero, List.set_cons_succ])
                  (refine keep_one 11 (by kernel_rfl) rfl ?_)
                  intro K hK
                  (refine step_link rfl (.tmp 51) (.tmp 54) 38 rfl Try.underlying38 wr0.heap.size ((u : Int), 1) k _ _ (by rfl) (by rfl) ((HM0.out.alloc (.cells #[.int .i64 ((u : Int)), .int .i64 1] 41)).drew) HU0.out (by simp [cell_push0]) (by simp [cell_push0]) (by simp; omega) ?_)
                  intro g1 cap1 wn1 hMn
                  have z0 := hMn.c1
                  have z1 := hMn.hdrCell HH0.out
                  have z2 := hMn.hdrFree k
                  have HN1 := Lib.hid hMn
                  clear hMn
                  refine hK _ _ (fun h => (by exact ⟨z0, z1⟩)) ?_
                  clear hK K
                  (try simp only [Act.put, List.setIfInBounds_toArray, List.set_cons_zero, List.set_cons_succ])
                  (refine keep_pure 12 (v := ?_) rfl (by kernel_rfl) (by kernel_rfl) (by kernel_rfl) (by kernel_rfl) (fun _ _ _ h => h) (Or.inl ⟨by rfl, ?_⟩) (.inr (by exact ⟨z0, z1⟩)) ?_; rotate_left 1; focus (intro _; go_simp; (try go_ints); try (with_reducible rfl)); (try simp only [Act.put, List.setIfInBounds_toArray, List.set_cons_zero, List.set_cons_succ]))
                  (refine keep_one 13 (by kernel_rfl) rfl ?_)
                  intro K hK
                  go_simp
                  refine hK _ _ (fun h => absurd h (calm_not (by kernel_rfl))) ?_
                  clear hK K
                  (try simp only [Act.put, List.setIfInBounds_toArray, List.set_cons_zero, List.set_cons_succ])
                  (refine keep_done (by kernel_rfl) ?_)
                  have hM1 := HN1.out.stored
                  have hR1 := HR0.out.snoc (.slice (some ⟨g1, 0, none⟩) ((selR (relC near) k u).length + 1) cap1) ((u : Int), 1)
                  try simp only [List.nil_append, List.cons_append, List.length_cons, List.length_nil, Nat.zero_add, Nat.reduceAdd] at hM1 hR1
                  obtain ⟨wr1, hw1⟩ : ∃ x, x = wn1.setCell ⟨hb, k, none⟩ (.slice (some ⟨g1, 0, none⟩) ((selR (relC near) k u).length + 1) cap1) := ⟨_, rfl⟩
                  rw [← hw1] at hM1 ⊢
                  clear hw1 z0 z1 z2
                  generalize us0.set k _ = us1 at hM1 hR1
                  have HM1 := Lib.hid hM1
                  have HR1 := Lib.hid hR1
                  clear hM1 hR1
                  go_wp2
                  go_roundw
                  case rel => exact ⟨u + 1, _, by go_num, hul, by rw [selR_take Hcc.out]; exact HR1.out, HM1.out⟩
                  case measure => simp [intOf]; omega
              · have hcc : relC near k u = near k u := by
                  have e1 : min u k = k := by omega
                  have e2 : max u k = u := by omega
                  simp [relC, hc, e1, e2]
                have hng : ¬ u < k := by omega
                have hWb : Below w.heap.size w W := by rw [HW.out]; exact (Below.refl _ _).alloc (Nat.le_refl _) _
                have HWb := Lib.hid hWb
                clear hWb
                have hen : ∀ (args : Array Value) (w : World), (callFunc kf args).run Try.prog w = .ok (.enter kf args) w := HN.out.ent
                cases hr : near k u with
                | false =>
                  rw [hr] at hcc
                  have Hcc := Lib.hid hcc
                  clear hcc
                  go_wp2_with (go_at_fn kf; refine (HN.out.says _ k u (HWb.out.trans (HM0.out.fr.mono (by omega))) hlk hul).mono ?_; rw [hr]; rintro e w2 ⟨rfl, hb2⟩)
                  go_roundw
                  case rel => exact ⟨u + 1, us0, by go_num, hul, by rw [selR_skip Hcc.out]; exact HR0.out, HM0.out.below hb2⟩
                  case measure => simp [intOf]; omega
                | true =>
                  rw [hr] at hcc
                  have Hcc := Lib.hid hcc
                  clear hcc
                  go_wp2_with (go_at_fn kf; refine (HN.out.says _ k u (HWb.out.trans (HM0.out.fr.mono (by omega))) hlk hul).mono ?_; rw [hr]; rintro e w2 ⟨rfl, hb2⟩; have hM3 := HM0.out.below hb2; have HM3 := Lib.hid hM3; clear hb2 hM3 HM0; have HM0 := HM3; clear HM3; (try clear wr0); obtain ⟨wr0, hwr0⟩ : ∃ x, x = w2 := ⟨_, rfl⟩; subst hwr0; obtain ⟨ua0, uc0, hu0, hh0⟩ := HM0.out.rowX HR0.out hlt; have c1_0 := HM0.out.c1; have ck0 := HM0.out.hdrCell hh0; have HU0 := Lib.hid hu0; have HH0 := Lib.hid hh0; clear hu0 hh0)
                  refine keep_start (fun w' => w'.cell? ⟨gb, 1, none⟩ = some (.slice (some ⟨hb, 0, none⟩) n n) ∧ w'.cell? ⟨hb, k, none⟩ = some (.slice ua0 ((selR (relC near) k u).length) uc0)) [13] (by kernel_rfl) ?_
                  (refine keep_pure 0 (v := ?_) rfl (by kernel_rfl) (by kernel_rfl) (by kernel_rfl) (by kernel_rfl) (fun _ _ _ h => h) (Or.inl ⟨by rfl, ?_⟩) (.inr (by exact ⟨HM0.out.c1, HM0.out.hdrCell HH0.out⟩)) ?_; rotate_left 1; focus (intro _; go_simp; (try go_ints); try (with_reducible rfl)); (try simp only [Act.put, List.setIfInBounds_toArray, List.set_cons_zero, List.set_cons_succ]))
                  (refine keep_pure 2 (v := ?_) rfl (by kernel_rfl) (by kernel_rfl) (by kernel_rfl) (by kernel_rfl) (fun _ _ _ h => h) (Or.inl ⟨by rfl, ?_⟩) (.inr (by exact ⟨HM0.out.c1, HM0.out.hdrCell HH0.out⟩)) ?_; rotate_left 1; focus (intro _; go_simp; (try go_ints); try (with_reducible rfl)); (try simp only [Act.put, List.setIfInBounds_toArray, List.set_cons_zero, List.set_cons_succ]))
                  (refine keep_pure 3 (v := ?_) rfl (by kernel_rfl) (by kernel_rfl) (by kernel_rfl) (by kernel_rfl) (fun _ _ _ h => h) (Or.inl ⟨by rfl, ?_⟩) (.inr (by exact ⟨HM0.out.c1, HM0.out.hdrCell HH0.out⟩)) ?_; rotate_left 1; focus (intro _; go_simp; (try go_ints); try (with_reducible rfl)); (try simp only [Act.put, List.setIfInBounds_toArray, List.set_cons_zero, List.set_cons_succ]))
                  (refine keep_pure 5 (v := ?_) rfl (by kernel_rfl) (by kernel_rfl) (by kernel_rfl) (by kernel_rfl) (fun _ _ _ h => h) (Or.inl ⟨by rfl, ?_⟩) (.inr (by exact ⟨HM0.out.c1, HM0.out.hdrCell HH0.out⟩)) ?_; rotate_left 1; focus (intro _; go_simp; (try go_ints); try (with_reducible rfl)); (try simp only [Act.put, List.setIfInBounds_toArray, List.set_cons_zero, List.set_cons_succ]))
                  (refine keep_pure 8 (v := ?_) rfl (by kernel_rfl) (by kernel_rfl) (by kernel_rfl) (by kernel_rfl) (fun _ _ _ h => h) (Or.inl ⟨by rfl, ?_⟩) (.inr (by exact ⟨HM0.out.c1, HM0.out.hdrCell HH0.out⟩)) ?_; rotate_left 1; focus (intro _; go_simp; (try go_ints); try (with_reducible rfl)); (try simp only [Act.put, List.setIfInBounds_toArray, List.set_cons_zero, List.set_cons_succ]))
                  (refine keep_pure 9 (v := ?_) rfl (by kernel_rfl) (by kernel_rfl) (by kernel_rfl) (by kernel_rfl) (fun _ _ _ h => h) (Or.inl ⟨by rfl, ?_⟩) (.inr (by exact ⟨HM0.out.c1, HM0.out.hdrCell HH0.out⟩)) ?_; rotate_left 1; focus (intro _; go_simp; (try go_ints); try (with_reducible rfl)); (try simp only [Act.put, List.setIfInBounds_toArray, List.set_cons_zero, List.set_cons_succ]))
                  (refine keep_load 1 (v := ?_) rfl (by kernel_rfl) (by kernel_rfl) (by kernel_rfl) (by kernel_rfl) (by kernel_rfl) (by kernel_rfl) (fun _ _ _ h => h) (Or.inl ⟨by rfl, ?_⟩) (by exact ⟨HM0.out.c1, HM0.out.hdrCell HH0.out⟩) ?_; rotate_left 1; focus (intro _ hSw; (first | (obtain ⟨_, _, _, _, _⟩ := hSw) | (obtain ⟨_, _, _, _⟩ := hSw) | (obtain ⟨_, _, _⟩ := hSw) | (obtain ⟨_, _⟩ := hSw) | skip); go_simp; (try go_ints); try (with_reducible rfl)); (try simp only [Act.put, List.setIfInBounds_toArray, List.set_cons_zero, List.set_cons_succ]))
                  (refine keep_load 4 (v := ?_) rfl (by kernel_rfl) (by kernel_rfl) (by kernel_rfl) (by kernel_rfl) (by kernel_rfl) (by kernel_rfl) (fun _ _ _ h => h) (Or.inl ⟨by rfl, ?_⟩) (by exact ⟨HM0.out.c1, HM0.out.hdrCell HH0.out⟩) ?_; rotate_left 1; focus (intro _ hSw; (first | (obtain ⟨_, _, _, _, _⟩ := hSw) | (obtain ⟨_, _, _, _⟩ := hSw) | (obtain ⟨_, _, _⟩ := hSw) | (obtain ⟨_, _⟩ := hSw) | skip); go_simp; (try go_ints); try (with_reducible rfl)); (try simp only [Act.put, List.setIfInBounds_toArray, List.set_cons_zero, List.set_cons_succ]))
                  (refine keep_pure 6 (v := ?_) rfl (by kernel_rfl) (by kernel_rfl) (by kernel_rfl) (by kernel_rfl) (fun _ _ _ h => h) (Or.inl ⟨by rfl, ?_⟩) (.inr (by exact ⟨HM0.out.c1, HM0.out.hdrCell HH0.out⟩)) ?_; rotate_left 1; focus (intro _; go_simp; (try go_ints); try (with_reducible rfl)); (try simp only [Act.put, List.setIfInBounds_toArray, List.set_cons_zero, List.set_cons_succ]))
                  (refine keep_load 7 (v := ?_) rfl (by kernel_rfl) (by kernel_rfl) (by kernel_rfl) (by kernel_rfl) (by kernel_rfl) (by kernel_rfl) (fun _ _ _ h => h) (Or.inl ⟨by rfl, ?_⟩) (by exact ⟨HM0.out.c1, HM0.out.hdrCell HH0.out⟩) ?_; rotate_left 1; focus (intro _ hSw; (first | (obtain ⟨_, _, _, _, _⟩ := hSw) | (obtain ⟨_, _, _, _⟩ := hSw) | (obtain ⟨_, _, _⟩ := hSw) | (obtain ⟨_, _⟩ := hSw) | skip); go_simp; (try go_ints); try (with_reducible rfl)); (try simp only [Act.put, List.setIfInBounds_toArray, List.set_cons_zero, List.set_cons_succ]))
                  (refine keep_one 10 (by kernel_rfl) rfl ?_)
                  intro K hK
                  go_simp
                  refine hK _ _ (fun h => (by exact ⟨(HM0.out.alloc _).drew.c1, (HM0.out.alloc _).drew.hdrCell HH0.out⟩)) ?_
                  clear hK K
                  (try simp only [Act.put, List.setIfInBounds_toArray, List.set_cons_zero, List.set_cons_succ])
                  (refine keep_one 11 (by kernel_rfl) rfl ?_)
                  intro K hK
                  (refine step_link rfl (.tmp 51) (.tmp 54) 38 rfl Try.underlying38 wr0.heap.size ((u : Int), 1) k _ _ (by rfl) (by rfl) ((HM0.out.alloc (.cells #[.int .i64 ((u : Int)), .int .i64 1] 41)).drew) HU0.out (by simp [cell_push0]) (by simp [cell_push0]) (by simp; omega) ?_)
                  intro g1 cap1 wn1 hMn
                  have z0 := hMn.c1
                  have z1 := hMn.hdrCell HH0.out
                  have z2 := hMn.hdrFree k
                  have HN1 := Lib.hid hMn
                  clear hMn
                  refine hK _ _ (fun h => (by exact ⟨z0, z1⟩)) ?_
                  clear hK K
                  (try simp only [Act.put, List.setIfInBounds_toArray, List.set_cons_zero, List.set_cons_succ])
                  (refine keep_pure 12 (v := ?_) rfl (by kernel_rfl) (by kernel_rfl) (by kernel_rfl) (by kernel_rfl) (fun _ _ _ h => h) (Or.inl ⟨by rfl, ?_⟩) (.inr (by exact ⟨z0, z1⟩)) ?_; rotate_left 1; focus (intro _; go_simp; (try go_ints); try (with_reducible rfl)); (try simp only [Act.put, List.setIfInBounds_toArray, List.set_cons_zero, List.set_cons_succ]))
                  (refine keep_one 13 (by kernel_rfl) rfl ?_)
                  intro K hK
                  go_simp
                  refine hK _ _ (fun h => absurd h (calm_not (by kernel_rfl))) ?_
                  clear hK K
                  (try simp only [Act.put, List.setIfInBounds_toArray, List.set_cons_zero, List.set_cons_succ])
                  (refine keep_done (by kernel_rfl) ?_)
                  have hM1 := HN1.out.stored
                  have hR1 := HR0.out.snoc (.slice (some ⟨g1, 0, none⟩) ((selR (relC near) k u).length + 1) cap1) ((u : Int), 1)
                  try simp only [List.nil_append, List.cons_append, List.length_cons, List.length_nil, Nat.zero_add, Nat.reduceAdd] at hM1 hR1
                  obtain ⟨wr1, hw1⟩ : ∃ x, x = wn1.setCell ⟨hb, k, none⟩ (.slice (some ⟨g1, 0, none⟩) ((selR (relC near) k u).length + 1) cap1) := ⟨_, rfl⟩
                  rw [← hw1] at hM1 ⊢
                  clear hw1 z0 z1 z2
                  generalize us0.set k _ = us1 at hM1 hR1
                  have HM1 := Lib.hid hM1
                  have HR1 := Lib.hid hR1
                  clear hM1 hR1
                  go_wp2
                  go_roundw
                  case rel => exact ⟨u + 1, _, by go_num, hul, by rw [selR_take Hcc.out]; exact HR1.out, HM1.out⟩
                  case measure => simp [intOf]; omega
          · obtain rfl : u = n := by omega
            go_wp2
            go_roundw
            case rel => exact ⟨k + 1, us0, by go_num, hlt, HR0.out.finish rfl, HM0.out⟩
            case measure => simp [intOf]; omega
      · obtain rfl : k = n := by omega
        have far : ∀ i, wr0.cell? ⟨w.heap.size, i, none⟩ = W.cell? ⟨w.heap.size, i, none⟩ := fun i => hM.fr.cell (p := ⟨w.heap.size, i, none⟩) (by simp; omega)
        have farf : ∀ i, wr0.frozen? ⟨w.heap.size, i, none⟩ = W.frozen? ⟨w.heap.size, i, none⟩ := fun i => hM.fr.frozen (p := ⟨w.heap.size, i, none⟩) (by simp; omega)
        have r0 : wr0.cell? ⟨w.heap.size, 0, none⟩ = some (.slice none 0 0) := by rw [far, HW.out]; simp [cell_push0]
        have r1 : wr0.cell? ⟨w.heap.size, 1, none⟩ = some (.slice none 0 0) := by rw [far, HW.out]; simp [cell_push0]
        have q4 : wr0.frozen? ⟨w.heap.size, 0, none⟩ = false := by rw [farf, HW.out]; simp [free_push0]
        have q5 : wr0.frozen? ⟨w.heap.size, 1, none⟩ = false := by rw [farf, HW.out]; simp [free_push0]
        rw [idsK_full] at hM
        have HM := Lib.hid hM
        have HR := Lib.hid hR
        clear hM hR far farf
        go_wp2
        refine bodyPost_ret (v := .tuple #[.agg #[.slice (some ⟨ib, 0, none⟩) k k, .slice (some ⟨hb, 0, none⟩) k k], .int .i64 0]) (by rw [results_c1 rfl]; go_simp) rfl ?_
        exact fam_done HM.out HR.out HW.out (selR_fit (relC near) k h2) h2
theorem related_any (n : Int) (kf : Nat) (cap : Array Value) (near : Nat → Nat → Bool) (w : World) (hN : inB n 1 24 = true → NearV kf cap near n.toNat w) :
    Calls Try.prog 29 #[.int .i64 n, .func (Fn.func kf) #[] cap] w fun e w' => FamOwn w.heap.size (relO near n) e w' ∧ Below w.heap.size w w' := by
  cases hn : inB n 1 24 with
  | false => exact relatedE_any n _ near w hn
  | true =>
    have h := inB_true hn
    obtain ⟨m, rfl⟩ : ∃ m : Nat, n = m := ⟨n.toNat, by omega⟩
    have := relatedE_ok m kf cap near w (by omega) (by omega) (by simpa using hN hn)
    unfold relO
    rw [if_pos hn]
    exact this
end Go.Proofs.Ytfbbkiibhdgojaa
