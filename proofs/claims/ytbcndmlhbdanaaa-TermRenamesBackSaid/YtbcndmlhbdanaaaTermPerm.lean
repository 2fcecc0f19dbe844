/- What permutation of the laws of layer 5 answers: a row of its own that holds a permutation of six numbers. -/
import Derived.Test.YtbcndmlhbdanaaaTermMod
import Derived.Test.YtbcndmlhbdanaaaKeep
namespace Go.Proofs.Ytbcndmlhbdanaaa
open Go.RowKit

/-- six numbers at a block -/
def Row6 (w : World) (g : Nat) (f : Nat → Int) : Prop := ∀ i, i < 6 → w.cell? ⟨g, i, none⟩ = some (.int .i64 (f i)) ∧ w.frozen? ⟨g, i, none⟩ = false
def PermF (f : Nat → Int) : Prop := (∀ i, i < 6 → 0 ≤ f i ∧ f i < 6) ∧ ∀ i j, i < 6 → j < 6 → f i = f j → i = j
def swapF (f : Nat → Int) (i k : Nat) : Nat → Int := fun v => if v = k then f i else if v = i then f k else f v
theorem PermF.swap {f : Nat → Int} {i k : Nat} (h : PermF f) (hi : i < 6) (hk : k < 6) : PermF (swapF f i k) := by
  refine ⟨fun v hv => ?_, fun u v hu hv e => ?_⟩
  · unfold swapF
    split
    · exact h.1 i hi
    · split
      · exact h.1 k hk
      · exact h.1 v hv
  · unfold swapF at e
    have key := h.2
    split at e
    · split at e
      · omega
      · split at e
        · have := key i k hi hk e
          omega
        · have := key i v hi hv e
          omega
    · split at e
      · split at e
        · have := key k i hk hi e
          omega
        · split at e
          · omega
          · have := key k v hk hv e
            omega
      · split at e
        · have := key u i hu hi e
          omega
        · split at e
          · have := key u k hu hk e
            omega
          · exact key u v hu hv e
theorem Row6.swap {w : World} {g i k : Nat} {f : Nat → Int} (h : Row6 w g f) (hi : i < 6) (hk : k < 6) : Row6 ((w.setCell ⟨g, i, none⟩ (.int .i64 (f k))).setCell ⟨g, k, none⟩ (.int .i64 (f i))) g (swapF f i k) := by
  intro v hv
  refine ⟨?_, by rw [World.frozen?_setCell, World.frozen?_setCell]; exact (h v hv).2⟩
  unfold swapF
  by_cases h1 : v = k
  · subst h1
    rw [if_pos rfl]
    by_cases h2 : v = i
    · subst h2
      exact set_same (set_same (h v hv).1)
    · exact set_same ((set_other (by intro e; injection e with _ e; exact h2 e.symm)).trans (h v hv).1)
  · rw [if_neg h1, set_other (by intro e; injection e with _ e; exact h1 e.symm)]
    by_cases h2 : v = i
    · subst h2
      rw [if_pos rfl]
      exact set_same (h v hv).1
    · rw [if_neg h2, set_other (by intro e; injection e with _ e; exact h2 e.symm)]
      exact (h v hv).1
theorem Row6.make (w : World) (t : TypeId) : Row6 (w.alloc (.cells #[.int .i64 0, .int .i64 1, .int .i64 2, .int .i64 3, .int .i64 4, .int .i64 5] t)) w.heap.size (fun v => (v : Int)) := by
  intro i hi
  refine ⟨?_, World.frozen?_alloc_new w _ t i⟩
  rw [World.cell?_alloc_new]
  match i, hi with
  | 0, _ => rfl
  | 1, _ => rfl
  | 2, _ => rfl
  | 3, _ => rfl
  | 4, _ => rfl
  | 5, _ => rfl
set_option maxHeartbeats 1000000 in
theorem permutation_any (a : Option Addr) (c : Nat) (zs : List Int) (w : World) (hI : IntsAt w a zs) :
    Calls Try.prog 31 #[.slice a zs.length c] w fun e w' => (∃ g f, e = .returned (.slice (some ⟨g, 0, none⟩) 6 6) ∧ w.heap.size ≤ g ∧ g < w'.heap.size ∧ Row6 w' g f ∧ PermF f) ∧ Below w.heap.size w w' := by
  have hzl := hI.size
  have HI := Lib.hid hI
  obtain ⟨m, hm⟩ : ∃ m, m = zs.length := ⟨_, rfl⟩
  have HM := Lib.hid hm
  rw [← hm] at hzl ⊢
  unfold maxLen at hzl
  clear hm hI
  have hB0 := (Below.refl w.heap.size w).alloc (Nat.le_refl _) (.cells #[.int .i64 0, .int .i64 1, .int .i64 2, .int .i64 3, .int .i64 4, .int .i64 5] 3)
  have hR0 := Row6.make w 3
  have HB0 := Lib.hid hB0
  have HR0 := Lib.hid hR0
  clear hB0 hR0
  go_enter Try.func31, Try.ntmps31
  go_wp2
  go_loopw [4] (fun t wr => ∃ (i : Nat) (f : Nat → Int), t = .int .i64 i ∧ i ≤ m ∧ i ≤ 6 ∧ Row6 wr w.heap.size f ∧ PermF f ∧ Below w.heap.size w wr ∧ w.heap.size < wr.heap.size) (fun t _ => m - (intOf t).toNat)
  case atStart => exact ⟨0, _, rfl, Nat.zero_le _, Nat.zero_le _, HR0.out, ⟨fun v hv => by dsimp only; omega, fun u v _ _ e => by dsimp only at e; omega⟩, HB0.out, by simp⟩
  case round =>
    obtain ⟨i, f, rfl, him, hi6, hrow, hperm, hbr, hsz⟩ := hrel
    have HRow := Lib.hid hrow
    have HPerm := Lib.hid hperm
    have HBr := Lib.hid hbr
    clear hrow hperm hbr
    by_cases hlt : i < m
    · by_cases h6 : i < 6
      · obtain ⟨zb, zo, rfl, hzb, hzc⟩ := HI.out.row (by rw [← HM.out]; omega)
        have g1 := (HBr.out.cell (p := ⟨zb, zo + i, none⟩) hzb).trans (hzc i (by rw [← HM.out]; exact hlt))
        have hz64 := HI.out.fit (i := i) (by rw [← HM.out]; exact hlt)
        generalize idA zs i = z at g1 hz64
        have HZ := Lib.hid hz64
        have e1 := Int.emod_nonneg z (b := ((6 : Nat) : Int)) (by omega)
        have e2 := Int.emod_lt_of_pos z (b := ((6 : Nat) : Int)) (by omega)
        obtain ⟨k, hk⟩ : ∃ k : Nat, z % ((6 : Nat) : Int) = k := ⟨(z % ((6 : Nat) : Int)).toNat, by omega⟩
        rw [hk] at e1 e2
        have HK := Lib.hid hk
        have hk6 : k < 6 := by omega
        obtain ⟨a1, a2⟩ := HRow.out i h6
        obtain ⟨b1, b2⟩ := HRow.out k hk6
        have hi0 : (0 : Int) ≤ i := by omega
        have hi1 : (i : Int) < m := by omega
        have hi5 : (i : Int) < 6 := by omega
        have hk5 : (k : Int) < 6 := by omega
        clear hzc hk hz64
        have HM2 := Lib.hid (mod_any z 6 wr HZ.out (by omega) (by omega))
        have hrow2 := HRow.out.swap h6 hk6
        have HR2 := Lib.hid hrow2
        have HB2 := Lib.hid ((HBr.out.setCell (p := ⟨w.heap.size, i, none⟩) (Nat.le_refl _) (.int .i64 (f k))).setCell (p := ⟨w.heap.size, k, none⟩) (Nat.le_refl _) (.int .i64 (f i)))
        have HP2 := Lib.hid (HPerm.out.swap h6 hk6)
        have a3 : (wr.setCell ⟨w.heap.size, i, none⟩ (.int .i64 (f k))).frozen? ⟨w.heap.size, k, none⟩ = false := by rw [World.frozen?_setCell]; exact b2
        obtain ⟨u3, a4⟩ : ∃ u3, (wr.setCell ⟨w.heap.size, i, none⟩ (.int .i64 (f k))).cell? ⟨w.heap.size, k, none⟩ = some u3 := by
          by_cases h : k = i
          · subst h
            exact ⟨_, set_same b1⟩
          · exact ⟨_, (set_other (by intro e; injection e with _ e; exact h e.symm)).trans b1⟩
        clear hrow2
        generalize hfi : f i = y1 at a1 HR2 HB2 a3 a4
        generalize hfk : f k = y2 at b1 HR2 HB2 a3 a4
        go_wp2_with (go_at_call 29; refine HM2.out.mono ?_; rintro e w1 ⟨rfl, rfl⟩; rw [HK.out])
        refine keep_start (fun w' => w'.cell? ⟨w.heap.size, i, none⟩ = some (.int .i64 y1) ∧ w'.cell? ⟨w.heap.size, k, none⟩ = some (.int .i64 y2)) [13, 15] (by kernel_rfl) ?_
        (refine keep_pure 0 (v := ?_) rfl (by kernel_rfl) (by kernel_rfl) (by kernel_rfl) (by kernel_rfl) (fun _ _ _ h => h) (Or.inl ⟨by rfl, ?_⟩) (.inr (by exact ⟨a1, b1⟩)) ?_; rotate_left 1; focus (intro _; go_simp; (try go_ints); try (with_reducible rfl)); (try simp only [Act.put, List.setIfInBounds_toArray, List.set_cons_zero, List.set_cons_succ]))
        (refine keep_pure 1 (v := ?_) rfl (by kernel_rfl) (by kernel_rfl) (by kernel_rfl) (by kernel_rfl) (fun _ _ _ h => h) (Or.inl ⟨by rfl, ?_⟩) (.inr (by exact ⟨a1, b1⟩)) ?_; rotate_left 1; focus (intro _; go_simp; (try go_ints); try (with_reducible rfl)); (try simp only [Act.put, List.setIfInBounds_toArray, List.set_cons_zero, List.set_cons_succ]))
        (refine keep_pure 2 (v := ?_) rfl (by kernel_rfl) (by kernel_rfl) (by kernel_rfl) (by kernel_rfl) (fun _ _ _ h => h) (Or.inl ⟨by rfl, ?_⟩) (.inr (by exact ⟨a1, b1⟩)) ?_; rotate_left 1; focus (intro _; go_simp; (try go_ints); try (with_reducible rfl)); (try simp only [Act.put, List.setIfInBounds_toArray, List.set_cons_zero, List.set_cons_succ]))
        (refine keep_pure 3 (v := ?_) rfl (by kernel_rfl) (by kernel_rfl) (by kernel_rfl) (by kernel_rfl) (fun _ _ _ h => h) (Or.inl ⟨by rfl, ?_⟩) (.inr (by exact ⟨a1, b1⟩)) ?_; rotate_left 1; focus (intro _; go_simp; (try go_ints); try (with_reducible rfl)); (try simp only [Act.put, List.setIfInBounds_toArray, List.set_cons_zero, List.set_cons_succ]))
        (refine keep_pure 4 (v := ?_) rfl (by kernel_rfl) (by kernel_rfl) (by kernel_rfl) (by kernel_rfl) (fun _ _ _ h => h) (Or.inl ⟨by rfl, ?_⟩) (.inr (by exact ⟨a1, b1⟩)) ?_; rotate_left 1; focus (intro _; go_simp; (try go_ints); try (with_reducible rfl)); (try simp only [Act.put, List.setIfInBounds_toArray, List.set_cons_zero, List.set_cons_succ]))
        (refine keep_pure 5 (v := ?_) rfl (by kernel_rfl) (by kernel_rfl) (by kernel_rfl) (by kernel_rfl) (fun _ _ _ h => h) (Or.inl ⟨by rfl, ?_⟩) (.inr (by exact ⟨a1, b1⟩)) ?_; rotate_left 1; focus (intro _; go_simp; (try go_ints); try (with_reducible rfl)); (try simp only [Act.put, List.setIfInBounds_toArray, List.set_cons_zero, List.set_cons_succ]))
        (refine keep_pure 6 (v := ?_) rfl (by kernel_rfl) (by kernel_rfl) (by kernel_rfl) (by kernel_rfl) (fun _ _ _ h => h) (Or.inl ⟨by rfl, ?_⟩) (.inr (by exact ⟨a1, b1⟩)) ?_; rotate_left 1; focus (intro _; go_simp; (try go_ints); try (with_reducible rfl)); (try simp only [Act.put, List.setIfInBounds_toArray, List.set_cons_zero, List.set_cons_succ]))
        (refine keep_pure 8 (v := ?_) rfl (by kernel_rfl) (by kernel_rfl) (by kernel_rfl) (by kernel_rfl) (fun _ _ _ h => h) (Or.inl ⟨by rfl, ?_⟩) (.inr (by exact ⟨a1, b1⟩)) ?_; rotate_left 1; focus (intro _; go_simp; (try go_ints); try (with_reducible rfl)); (try simp only [Act.put, List.setIfInBounds_toArray, List.set_cons_zero, List.set_cons_succ]))
        (refine keep_pure 9 (v := ?_) rfl (by kernel_rfl) (by kernel_rfl) (by kernel_rfl) (by kernel_rfl) (fun _ _ _ h => h) (Or.inl ⟨by rfl, ?_⟩) (.inr (by exact ⟨a1, b1⟩)) ?_; rotate_left 1; focus (intro _; go_simp; (try go_ints); try (with_reducible rfl)); (try simp only [Act.put, List.setIfInBounds_toArray, List.set_cons_zero, List.set_cons_succ]))
        (refine keep_pure 10 (v := ?_) rfl (by kernel_rfl) (by kernel_rfl) (by kernel_rfl) (by kernel_rfl) (fun _ _ _ h => h) (Or.inl ⟨by rfl, ?_⟩) (.inr (by exact ⟨a1, b1⟩)) ?_; rotate_left 1; focus (intro _; go_simp; (try go_ints); try (with_reducible rfl)); (try simp only [Act.put, List.setIfInBounds_toArray, List.set_cons_zero, List.set_cons_succ]))
        (refine keep_load 7 (v := ?_) rfl (by kernel_rfl) (by kernel_rfl) (by kernel_rfl) (by kernel_rfl) (by kernel_rfl) (by kernel_rfl) (fun _ _ _ h => h) (Or.inl ⟨by rfl, ?_⟩) (by exact ⟨a1, b1⟩) ?_; rotate_left 1; focus (intro _ hSw; (first | (obtain ⟨_, _, _, _, _⟩ := hSw) | (obtain ⟨_, _, _, _⟩ := hSw) | (obtain ⟨_, _, _⟩ := hSw) | (obtain ⟨_, _⟩ := hSw) | skip); go_simp; (try go_ints); try (with_reducible rfl)); (try simp only [Act.put, List.setIfInBounds_toArray, List.set_cons_zero, List.set_cons_succ]))
        (refine keep_load 11 (v := ?_) rfl (by kernel_rfl) (by kernel_rfl) (by kernel_rfl) (by kernel_rfl) (by kernel_rfl) (by kernel_rfl) (fun _ _ _ h => h) (Or.inl ⟨by rfl, ?_⟩) (by exact ⟨a1, b1⟩) ?_; rotate_left 1; focus (intro _ hSw; (first | (obtain ⟨_, _, _, _, _⟩ := hSw) | (obtain ⟨_, _, _, _⟩ := hSw) | (obtain ⟨_, _, _⟩ := hSw) | (obtain ⟨_, _⟩ := hSw) | skip); go_simp; (try go_ints); try (with_reducible rfl)); (try simp only [Act.put, List.setIfInBounds_toArray, List.set_cons_zero, List.set_cons_succ]))
        (refine keep_pure 12 (v := ?_) rfl (by kernel_rfl) (by kernel_rfl) (by kernel_rfl) (by kernel_rfl) (fun _ _ _ h => h) (Or.inl ⟨by rfl, ?_⟩) (.inr (by exact ⟨a1, b1⟩)) ?_; rotate_left 1; focus (intro _; go_simp; (try go_ints); try (with_reducible rfl)); (try simp only [Act.put, List.setIfInBounds_toArray, List.set_cons_zero, List.set_cons_succ]))
        (refine keep_one 13 (by kernel_rfl) rfl ?_)
        intro K hK
        go_simp
        refine hK _ _ (fun h => absurd h (calm_not (by kernel_rfl))) ?_
        clear hK K
        (try simp only [Act.put, List.setIfInBounds_toArray, List.set_cons_zero, List.set_cons_succ])
        (refine keep_pure 14 (v := ?_) rfl (by kernel_rfl) (by kernel_rfl) (by kernel_rfl) (by kernel_rfl) (fun _ _ _ h => h) (Or.inl ⟨by rfl, ?_⟩) (.inl (by kernel_rfl)) ?_; rotate_left 1; focus (intro _; go_simp; (try go_ints); try (with_reducible rfl)); (try simp only [Act.put, List.setIfInBounds_toArray, List.set_cons_zero, List.set_cons_succ]))
        (refine keep_one 15 (by kernel_rfl) rfl ?_)
        intro K hK
        go_simp
        refine hK _ _ (fun h => absurd h (calm_not (by kernel_rfl))) ?_
        clear hK K
        (try simp only [Act.put, List.setIfInBounds_toArray, List.set_cons_zero, List.set_cons_succ])
        (refine keep_done (by kernel_rfl) ?_)
        go_wp2
        go_roundw
        case rel => exact ⟨i + 1, swapF f i k, by go_num, by omega, by omega, HR2.out, HP2.out, by first | exact HB2.out | exact belDraws HB2.out 1, by simpa using hsz⟩
        case measure => simp [intOf]; omega
      · obtain rfl : i = 6 := by omega
        go_wp2
        go_ret
        exact ⟨⟨_, f, rfl, Nat.le_refl _, hsz, HRow.out, HPerm.out⟩, HBr.out⟩
    · obtain rfl : i = m := by omega
      go_wp2
      go_ret
      exact ⟨⟨_, f, rfl, Nat.le_refl _, hsz, HRow.out, HPerm.out⟩, HBr.out⟩
end Go.Proofs.Ytbcndmlhbdanaaa
