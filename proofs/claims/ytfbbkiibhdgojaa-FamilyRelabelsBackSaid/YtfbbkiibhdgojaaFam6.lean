/- What slices.Reverse does with a row of two links. -/
import Derived.Test.YtfbbkiibhdgojaaFam4
import Derived.LoopN
namespace Go.Proofs.Ytfbbkiibhdgojaa
open Go.RowKit

theorem Made.swap2 {W w : World} {gb i g cap : Nat} {x1 x2 v1 v2 : Value} {zs : List Int} {hs : List Value} {us : List (Value × List (Int × Int))} {p q : Int × Int} (h : Made W gb w x1 x2 v1 zs v2 hs us) (hi : us[i]? = some (.slice (some ⟨g, 0, none⟩) 2 cap, [p, q])) :
    Made W gb ((((w.setCell ⟨g, 0, none⟩ (.int .i64 q.1)).setCell ⟨g, 1, none⟩ (.int .i64 q.2)).setCell ⟨g, 2, none⟩ (.int .i64 p.1)).setCell ⟨g, 3, none⟩ (.int .i64 p.2)) x1 x2 v1 zs v2 hs (us.set i (.slice (some ⟨g, 0, none⟩) 2 cap, [q, p])) := by
  obtain ⟨hlt, hu⟩ := List.getElem?_eq_some_iff.1 hi
  have ho : w.ownsRow W.heap.size 41 2 (.slice (some ⟨g, 0, none⟩) 2 cap) 2 (linkVs [p, q]) := h.lnk (u := (.slice (some ⟨g, 0, none⟩) 2 cap, [p, q])) (List.mem_of_getElem? hi)
  obtain ⟨o1, g1⟩ := World.ownsRow.stored ho 0 (.int .i64 q.1)
  obtain ⟨o2, g2⟩ := World.ownsRow.stored o1 1 (.int .i64 q.2)
  obtain ⟨o3, g3⟩ := World.ownsRow.stored o2 2 (.int .i64 p.1)
  obtain ⟨o4, g4⟩ := World.ownsRow.stored o3 3 (.int .i64 p.2)
  refine h.turn hlt _ (by rw [hu]; exact ((g1.trans g2).trans g3).trans g4) ?_ (fun g' e => .inl (by rw [hu]; exact e))
  exact o4

set_option linter.unusedSimpArgs false in
set_option maxHeartbeats 4000000 in
theorem reverse2_any (W w : World) (gb i g cap : Nat) (x1 x2 v1 v2 : Value) (zs : List Int) (hs : List Value) (us : List (Value × List (Int × Int))) (p q : Int × Int) (hM : Made W gb w x1 x2 v1 zs v2 hs us) (hi : us[i]? = some (.slice (some ⟨g, 0, none⟩) 2 cap, [p, q])) :
    Calls Try.prog 31 #[.slice (some ⟨g, 0, none⟩) 2 cap] w fun e w' => e = .returned (.tuple #[]) ∧ Made W gb w' x1 x2 v1 zs v2 hs (us.set i (.slice (some ⟨g, 0, none⟩) 2 cap, [q, p])) := by
  have ho : w.ownsRow W.heap.size 41 2 (.slice (some ⟨g, 0, none⟩) 2 cap) 2 (linkVs [p, q]) := hM.lnk (u := (.slice (some ⟨g, 0, none⟩) 2 cap, [p, q])) (List.mem_of_getElem? hi)
  have hM' : Made W gb w.drew x1 x2 v1 zs v2 hs us := hM.drew
  have hMs := hM'.swap2 hi
  have c0 : w.cell? ⟨g, 0, none⟩ = some (.int .i64 p.1) := by simpa using own_cell (j := 0) ho rfl
  have c1 : w.cell? ⟨g, 1, none⟩ = some (.int .i64 p.2) := by simpa using own_cell (j := 1) ho rfl
  have c2 : w.cell? ⟨g, 2, none⟩ = some (.int .i64 q.1) := by simpa using own_cell (j := 2) ho rfl
  have c3 : w.cell? ⟨g, 3, none⟩ = some (.int .i64 q.2) := by simpa using own_cell (j := 3) ho rfl
  have f0 : w.frozen? ⟨g, 0, none⟩ = false := World.ownsRow.frozenAt ho 0
  have f1 : w.frozen? ⟨g, 1, none⟩ = false := World.ownsRow.frozenAt ho 1
  have f2 : w.frozen? ⟨g, 2, none⟩ = false := World.ownsRow.frozenAt ho 2
  have f3 : w.frozen? ⟨g, 3, none⟩ = false := World.ownsRow.frozenAt ho 3
  have HMs := Lib.hid hMs
  clear hM hM' hMs ho hi
  go_enter Try.func31, Try.ntmps31
  go_wp2
  refine wp_loop_rounds 2 ?_
  rw [rounds_succ]
  go_wp2
  refine keep_start (fun w' => w'.cell? ⟨g, 0, none⟩ = some (.int .i64 p.1) ∧ w'.cell? ⟨g, 1, none⟩ = some (.int .i64 p.2) ∧ w'.cell? ⟨g, 2, none⟩ = some (.int .i64 q.1) ∧ w'.cell? ⟨g, 3, none⟩ = some (.int .i64 q.2)) [13, 15] (by kernel_rfl) ?_
  (refine keep_pure 0 (v := ?_) rfl (by kernel_rfl) (by kernel_rfl) (by kernel_rfl) (by kernel_rfl) (fun _ _ _ h => h) (Or.inl ⟨by rfl, ?_⟩) (.inr (by exact ⟨c0, c1, c2, c3⟩)) ?_; rotate_left 1; focus (intro _; go_simp; (try go_ints); try (with_reducible rfl)); (try simp only [Act.put, List.setIfInBounds_toArray, List.set_cons_zero, List.set_cons_succ]))
  (refine keep_pure 1 (v := ?_) rfl (by kernel_rfl) (by kernel_rfl) (by kernel_rfl) (by kernel_rfl) (fun _ _ _ h => h) (Or.inl ⟨by rfl, ?_⟩) (.inr (by exact ⟨c0, c1, c2, c3⟩)) ?_; rotate_left 1; focus (intro _; go_simp; (try go_ints); try (with_reducible rfl)); (try simp only [Act.put, List.setIfInBounds_toArray, List.set_cons_zero, List.set_cons_succ]))
  (refine keep_pure 2 (v := ?_) rfl (by kernel_rfl) (by kernel_rfl) (by kernel_rfl) (by kernel_rfl) (fun _ _ _ h => h) (Or.inl ⟨by rfl, ?_⟩) (.inr (by exact ⟨c0, c1, c2, c3⟩)) ?_; rotate_left 1; focus (intro _; go_simp; (try go_ints); try (with_reducible rfl)); (try simp only [Act.put, List.setIfInBounds_toArray, List.set_cons_zero, List.set_cons_succ]))
  (refine keep_pure 3 (v := ?_) rfl (by kernel_rfl) (by kernel_rfl) (by kernel_rfl) (by kernel_rfl) (fun _ _ _ h => h) (Or.inl ⟨by rfl, ?_⟩) (.inr (by exact ⟨c0, c1, c2, c3⟩)) ?_; rotate_left 1; focus (intro _; go_simp; (try go_ints); try (with_reducible rfl)); (try simp only [Act.put, List.setIfInBounds_toArray, List.set_cons_zero, List.set_cons_succ]))
  (refine keep_pure 4 (v := ?_) rfl (by kernel_rfl) (by kernel_rfl) (by kernel_rfl) (by kernel_rfl) (fun _ _ _ h => h) (Or.inl ⟨by rfl, ?_⟩) (.inr (by exact ⟨c0, c1, c2, c3⟩)) ?_; rotate_left 1; focus (intro _; go_simp; (try go_ints); try (with_reducible rfl)); (try simp only [Act.put, List.setIfInBounds_toArray, List.set_cons_zero, List.set_cons_succ]))
  (refine keep_pure 5 (v := ?_) rfl (by kernel_rfl) (by kernel_rfl) (by kernel_rfl) (by kernel_rfl) (fun _ _ _ h => h) (Or.inl ⟨by rfl, ?_⟩) (.inr (by exact ⟨c0, c1, c2, c3⟩)) ?_; rotate_left 1; focus (intro _; go_simp; (try go_ints); try (with_reducible rfl)); (try simp only [Act.put, List.setIfInBounds_toArray, List.set_cons_zero, List.set_cons_succ]))
  (refine keep_pure 6 (v := ?_) rfl (by kernel_rfl) (by kernel_rfl) (by kernel_rfl) (by kernel_rfl) (fun _ _ _ h => h) (Or.inl ⟨by rfl, ?_⟩) (.inr (by exact ⟨c0, c1, c2, c3⟩)) ?_; rotate_left 1; focus (intro _; go_simp; (try go_ints); try (with_reducible rfl)); (try simp only [Act.put, List.setIfInBounds_toArray, List.set_cons_zero, List.set_cons_succ]))
  (refine keep_pure 8 (v := ?_) rfl (by kernel_rfl) (by kernel_rfl) (by kernel_rfl) (by kernel_rfl) (fun _ _ _ h => h) (Or.inl ⟨by rfl, ?_⟩) (.inr (by exact ⟨c0, c1, c2, c3⟩)) ?_; rotate_left 1; focus (intro _; go_simp; (try go_ints); try (with_reducible rfl)); (try simp only [Act.put, List.setIfInBounds_toArray, List.set_cons_zero, List.set_cons_succ]))
  (refine keep_pure 9 (v := ?_) rfl (by kernel_rfl) (by kernel_rfl) (by kernel_rfl) (by kernel_rfl) (fun _ _ _ h => h) (Or.inl ⟨by rfl, ?_⟩) (.inr (by exact ⟨c0, c1, c2, c3⟩)) ?_; rotate_left 1; focus (intro _; go_simp; (try go_ints); try (with_reducible rfl)); (try simp only [Act.put, List.setIfInBounds_toArray, List.set_cons_zero, List.set_cons_succ]))
  (refine keep_pure 10 (v := ?_) rfl (by kernel_rfl) (by kernel_rfl) (by kernel_rfl) (by kernel_rfl) (fun _ _ _ h => h) (Or.inl ⟨by rfl, ?_⟩) (.inr (by exact ⟨c0, c1, c2, c3⟩)) ?_; rotate_left 1; focus (intro _; go_simp; (try go_ints); try (with_reducible rfl)); (try simp only [Act.put, List.setIfInBounds_toArray, List.set_cons_zero, List.set_cons_succ]))
  (refine keep_load 7 (v := ?_) rfl (by kernel_rfl) (by kernel_rfl) (by kernel_rfl) (by kernel_rfl) (by kernel_rfl) (by kernel_rfl) (fun _ _ _ h => h) (Or.inl ⟨by rfl, ?_⟩) (by exact ⟨c0, c1, c2, c3⟩) ?_; rotate_left 1; focus (intro _ hSw; (first | (obtain ⟨_, _, _, _, _⟩ := hSw) | (obtain ⟨_, _, _, _⟩ := hSw) | (obtain ⟨_, _, _⟩ := hSw) | (obtain ⟨_, _⟩ := hSw) | skip); go_simp; (try go_ints); try (with_reducible rfl)); (try simp only [Act.put, List.setIfInBounds_toArray, List.set_cons_zero, List.set_cons_succ]))
  (refine keep_load 11 (v := ?_) rfl (by kernel_rfl) (by kernel_rfl) (by kernel_rfl) (by kernel_rfl) (by kernel_rfl) (by kernel_rfl) (fun _ _ _ h => h) (Or.inl ⟨by rfl, ?_⟩) (by exact ⟨c0, c1, c2, c3⟩) ?_; rotate_left 1; focus (intro _ hSw; (first | (obtain ⟨_, _, _, _, _⟩ := hSw) | (obtain ⟨_, _, _, _⟩ := hSw) | (obtain ⟨_, _, _⟩ := hSw) | (obtain ⟨_, _⟩ := hSw) | skip); go_simp; (try go_ints); try (with_reducible rfl)); (try simp only [Act.put, List.setIfInBounds_toArray, List.set_cons_zero, List.set_cons_succ]))
  (refine keep_pure 12 (v := ?_) rfl (by kernel_rfl) (by kernel_rfl) (by kernel_rfl) (by kernel_rfl) (fun _ _ _ h => h) (Or.inl ⟨by rfl, ?_⟩) (.inr (by exact ⟨c0, c1, c2, c3⟩)) ?_; rotate_left 1; focus (intro _; go_simp; (try go_ints); try (with_reducible rfl)); (try simp only [Act.put, List.setIfInBounds_toArray, List.set_cons_zero, List.set_cons_succ]))
  (refine keep_one 13 (by kernel_rfl) rfl ?_)
  intro K hK
  go_simp
  refine hK _ _ (fun h => absurd h (calm_not (by kernel_rfl))) ?_
  clear hK K
  (try simp only [Act.put, List.setIfInBounds_toArray, List.set_cons_zero, List.set_cons_succ])
  (refine keep_pure 14 (v := ?_) rfl (by kernel_rfl) (by kernel_rfl) (by kernel_rfl) (by kernel_rfl) (fun _ _ _ h => h) (Or.inl ⟨by rfl, ?_⟩) (.inl (by kernel_rfl)) ?_; rotate_left 1; focus (intro _; go_simp; (try go_ints); try (with_reducible rfl)); (try simp only [Act.put, List.setIfInBounds_toArray, List.set_cons_zero, List.set_cons_succ]))
  (refine keep_one 15 (by kernel_rfl) rfl ?_)
  intro K hK
  go_simp
  refine hK _ _ (fun h => absurd h (calm_not (by kernel_rfl))) ?_
  clear hK K
  (try simp only [Act.put, List.setIfInBounds_toArray, List.set_cons_zero, List.set_cons_succ])
  (refine keep_done (by kernel_rfl) ?_)
  go_wp2
  rw [rounds_succ]
  go_wp2
  go_end0
  exact ⟨rfl, HMs.out⟩
end Go.Proofs.Ytfbbkiibhdgojaa
