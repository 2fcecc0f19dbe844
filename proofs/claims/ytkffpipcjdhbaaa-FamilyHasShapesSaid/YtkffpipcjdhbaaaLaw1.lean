/- What the laws of layer 1 share: the example that every law asks again, and 'fair'. -/
import Derived.Test.YtkffpipcjdhbaaaGraph7
namespace Go.Proofs.Ytkffpipcjdhbaaa
open Go.RowKit

def G0 : Gr := ⟨[7, 3], [[(1, 5)], [(0, 5)]]⟩

theorem valid0 : ValidG G0 := by
  refine ⟨by decide, by decide, by decide, fun v hv => ?_, fun v hv => ?_, fun v hv i hi => ?_⟩
  · have : v = 0 ∨ v = 1 := by simp [G0] at hv; omega
    rcases this with rfl | rfl
    · exact ⟨by decide, fun k hk => absurd hk (by omega)⟩
    · exact ⟨by decide, fun k hk => by rw [show k = 0 by omega]; decide⟩
  · have : v = 0 ∨ v = 1 := by simp [G0] at hv; omega
    rcases this with rfl | rfl
    all_goals
      intro i hi
      have h0 : i = 0 := by simp [G0, rowA] at hi; omega
      subst h0
      exact ⟨by decide, by decide, by decide, fun k hk => absurd hk (by omega)⟩
  · have : v = 0 ∨ v = 1 := by simp [G0] at hv; omega
    rcases this with rfl | rfl
    all_goals
      have h0 : i = 0 := by simp [G0, rowA] at hi; omega
      subst h0
      unfold MateOk
      decide

theorem adj0 : Adj G0 0 1 := ⟨0, by decide, by decide⟩
theorem adj1 : Adj G0 1 0 := ⟨0, by decide, by decide⟩
theorem dist_self (G : Gr) (v : Nat) : distF G v v = 0 := distF_eq (.inl ⟨0, rfl, rfl, fun m _ => Nat.zero_le m⟩)
theorem dist_adj {G : Gr} {u v : Nat} (h : Adj G u v) (hne : v ≠ u) : distF G u v = 1 :=
  distF_eq (.inl ⟨1, rfl, .inr ⟨u, rfl, h⟩, fun m hm => by
    rcases Nat.eq_zero_or_pos m with rfl | h0
    · exact absurd hm hne
    · exact h0⟩)
theorem conn0 : connB G0 = true := connB_iff.2 ⟨valid0, fun v hv => by
  have : v = 0 ∨ v = 1 := by simp [G0] at hv; omega
  rcases this with rfl | rfl
  · rw [dist_self]; decide
  · rw [dist_adj adj0 (by decide)]; decide⟩
theorem diam0 : diamF G0 = 1 := by
  unfold diamF
  rw [if_pos conn0]
  have e : G0.ps.length - 1 = 1 := rfl
  rw [e]
  simp only [maxF]
  rw [dist_self, dist_self, dist_adj adj0 (by decide), dist_adj adj1 (by decide)]
  rfl
theorem deg0 : degF G0 1 = 1 := by
  unfold degF
  rw [if_pos ⟨validB_mk valid0, by decide⟩]
  decide

theorem cell_push (w : World) (c : Array Value) (t : TypeId) (b i : Nat) : (w.alloc (.cells c t)).cell? ⟨b, i, none⟩ = if b = w.heap.size then c[i]? else w.cell? ⟨b, i, none⟩ := by
  split
  · rename_i h; rw [h]; exact World.cell?_alloc_new w c t i
  · rename_i h; exact World.cell?_alloc_old w _ _ h

/-- the world behind the example's making -/
def W5 (w : World) : World :=
  ((((w.alloc (.cells #[.int .i64 7, .int .i64 3] 3)).alloc (.cells #[.int .i64 1, .int .i64 5] 50)).alloc (.cells #[.int .i64 0, .int .i64 5] 50)).alloc
    (.cells #[.slice (some ⟨w.heap.size + 1, 0, none⟩) 1 1, .slice (some ⟨w.heap.size + 1 + 1, 0, none⟩) 1 1] 48)).alloc
    (.cells #[.slice (some ⟨w.heap.size, 0, none⟩) 2 2, .slice (some ⟨w.heap.size + 1 + 1 + 1, 0, none⟩) 2 2] 26)

theorem graph0 (w : World) : GraphAt (W5 w) (some ⟨w.heap.size, 0, none⟩) 2 (some ⟨w.heap.size + 1 + 1 + 1, 0, none⟩) 2 G0 := by
  have i64 : ∀ z : Int, 0 ≤ z → z ≤ 10 → I64 z := fun z h1 h2 => ⟨by omega, by omega⟩
  refine ⟨rfl, rfl, ⟨by decide, fun _ => ⟨_, 0, rfl, by simp [W5]; omega, fun i hi => ?_⟩, ?_⟩, ⟨by decide, fun _ => ⟨_, 0, rfl, by simp [W5], fun v hv => ?_⟩⟩⟩
  · have : i = 0 ∨ i = 1 := by simp [G0] at hi; omega
    rcases this with rfl | rfl <;> (simp [W5, cell_push, G0, idA]; rw [if_neg (by omega), if_neg (by omega), if_neg (by omega)])
  · intro z hz
    simp [G0] at hz
    exact i64 z (by omega) (by omega)
  · have : v = 0 ∨ v = 1 := by simp [G0] at hv; omega
    rcases this with rfl | rfl
    · refine ⟨some ⟨w.heap.size + 1, 0, none⟩, 1, by simp [W5, cell_push, G0, rowA], ⟨by decide, fun _ => ⟨_, 0, rfl, by simp [W5], fun i hi => ?_⟩, ?_⟩⟩
      · have : i = 0 := by simp [G0, rowA] at hi; omega
        subst this
        simp [W5, cell_push, G0, rowA, toA, wtA]
      · intro z hz
        simp [G0, rowA] at hz
        rw [hz]
        exact ⟨i64 _ (by omega) (by omega), i64 _ (by omega) (by omega)⟩
    · refine ⟨some ⟨w.heap.size + 1 + 1, 0, none⟩, 1, by simp [W5, cell_push, G0, rowA], ⟨by decide, fun _ => ⟨_, 0, rfl, by simp [W5], fun i hi => ?_⟩, ?_⟩⟩
      · have : i = 0 := by simp [G0, rowA] at hi; omega
        subst this
        simp [W5, cell_push, G0, rowA, toA, wtA]
      · intro z hz
        simp [G0, rowA] at hz
        rw [hz]
        exact ⟨i64 _ (by omega) (by omega), i64 _ (by omega) (by omega)⟩

theorem below0 (w : World) : Below w.heap.size w (W5 w) := by
  unfold W5
  exact (((((Below.refl _ _).alloc (Nat.le_refl _) _).alloc (by simp) _).alloc (by simp; omega) _).alloc (by simp; omega) _).alloc (by simp; omega) _

theorem box0 {w w' : World} (h : Below (W5 w).heap.size (W5 w) w') (i : Nat) : w'.cell? ⟨w.heap.size + 1 + 1 + 1 + 1, i, none⟩ = (#[.slice (some ⟨w.heap.size, 0, none⟩) 2 2, .slice (some ⟨w.heap.size + 1 + 1 + 1, 0, none⟩) 2 2] : Array Value)[i]? := by
  rw [h.cell (p := ⟨w.heap.size + 1 + 1 + 1 + 1, i, none⟩) (by simp [W5])]
  simp [W5, cell_push]

noncomputable def fairB (G : Gr) : Bool := lightB G && validB G
theorem fairB_iff {G : Gr} : fairB G = true ↔ lightB G = true ∧ ValidG G := by simp [fairB, validB_iff]

end Go.Proofs.Ytkffpipcjdhbaaa
