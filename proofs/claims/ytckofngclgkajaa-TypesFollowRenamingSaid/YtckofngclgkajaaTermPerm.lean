/- What permutation of the laws of layer 5 answers: a row of its own that holds a permutation of six numbers. -/
import Derived.Test.YtckofngclgkajaaTermMod
import Derived.Test.YtckofngclgkajaaTermR5
namespace Go.Proofs.Ytckofngclgkajaa
open Go.RowKit

/-- six numbers at a block -/
def Row6 (w : World) (g : Nat) (f : Nat → Int) : Prop := ∀ i, i < 6 → w.cell? ⟨g, i, none⟩ = some (.int .i64 (f i)) ∧ w.frozen? ⟨g, i, none⟩ = false
def PermF (f : Nat → Int) : Prop := (∀ i, i < 6 → 0 ≤ f i ∧ f i < 6) ∧ ∀ i j, i < 6 → j < 6 → f i = f j → i = j
def swapF (f : Nat → Int) (i k : Nat) : Nat → Int := fun v => if v = k then f i else if v = i then f k else f v
theorem PermF.swap {f : Nat → Int} {i k : Nat} (h : PermF f) (hi : i < 6) (hk : k < 6) : PermF (swapF f i k) := by
  refine ⟨fun v hv => ?_, fun u v hu hv e => ?_⟩
  · unfold swapF
    split
    · exact h.1 i hi
    · split
      · exact h.1 k hk
      · exact h.1 v hv
  · unfold swapF at e
    have key := h.2
    split at e
    · split at e
      · omega
      · split at e
        · have := key i k hi hk e
          omega
        · have := key i v hi hv e
          omega
    · split at e
      · split at e
        · have := key k i hk hi e
          omega
        · split at e
          · omega
          · have := key k v hk hv e
            omega
      · split at e
        · have := key u i hu hi e
          omega
        · split at e
          · have := key u k hu hk e
            omega
          · exact key u v hu hv e
theorem Row6.swap {w : World} {g i k : Nat} {f : Nat → Int} (h : Row6 w g f) (hi : i < 6) (hk : k < 6) : Row6 ((w.setCell ⟨g, i, none⟩ (.int .i64 (f k))).setCell ⟨g, k, none⟩ (.int .i64 (f i))) g (swapF f i k) := by
  intro v hv
  refine ⟨?_, by rw [World.frozen?_setCell, World.frozen?_setCell]; exact (h v hv).2⟩
  unfold swapF
  by_cases h1 : v = k
  · subst h1
    rw [if_pos rfl]
    by_cases h2 : v = i
    · subst h2
      exact set_same (set_same (h v hv).1)
    · exact set_same ((set_other (by intro e; injection e with _ e; exact h2 e.symm)).trans (h v hv).1)
  · rw [if_neg h1, set_other (by intro e; injection e with _ e; exact h1 e.symm)]
    by_cases h2 : v = i
    · subst h2
      rw [if_pos rfl]
      exact set_same (h v hv).1
    · rw [if_neg h2, set_other (by intro e; injection e with _ e; exact h2 e.symm)]
      exact (h v hv).1
theorem Row6.make (w : World) (t : TypeId) : Row6 (w.alloc (.cells #[.int .i64 0, .int .i64 1, .int .i64 2, .int .i64 3, .int .i64 4, .int .i64 5] t)) w.heap.size (fun v => (v : Int)) := by
  intro i hi
  refine ⟨?_, World.frozen?_alloc_new w _ t i⟩
  rw [World.cell?_alloc_new]
  match i, hi with
  | 0, _ => rfl
  | 1, _ => rfl
  | 2, _ => rfl
  | 3, _ => rfl
  | 4, _ => rfl
  | 5, _ => rfl
end Go.Proofs.Ytckofngclgkajaa
