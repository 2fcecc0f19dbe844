/- What the functions of package graph answer, fifth part: Back. -/
import Derived.Test.YtfbbkiibhdgojaaGraph4
namespace Go.Proofs.Ytfbbkiibhdgojaa
open Go.RowKit

theorem boxedA {w w' : World} {C D : Array Value} {t u : TypeId} (h : Below (w.heap.size + 2) ((w.alloc (.cells C t)).alloc (.cells D u)) w') (i : Nat) : w'.cell? ⟨w.heap.size, i, none⟩ = C[i]? :=
  (h.cell (p := ⟨w.heap.size, i, none⟩) (by simp)).trans (by simp)
theorem boxedB {w w' : World} {C D : Array Value} {t u : TypeId} (h : Below (w.heap.size + 2) ((w.alloc (.cells C t)).alloc (.cells D u)) w') (i : Nat) : w'.cell? ⟨w.heap.size + 1, i, none⟩ = D[i]? :=
  (h.cell (p := ⟨w.heap.size + 1, i, none⟩) (by simp)).trans (by
    have e := World.cell?_alloc_new (w.alloc (.cells C t)) D u i
    rw [show (w.alloc (.cells C t)).heap.size = w.heap.size + 1 from by simp] at e
    exact e)
theorem belBox2 {w w' : World} {o o2 : Obj} (h : Below (w.heap.size + 2) ((w.alloc o).alloc o2) w') : Below w.heap.size w w' :=
  ((((Below.refl _ _).alloc (Nat.le_refl _) o).alloc (by simp) o2).trans (h.mono (by omega)))

/-- the port by which the neighbour at port p of v leads back, or -1 -/
noncomputable def backF (G : Gr) (v p : Int) : Int :=
  if validB G = true ∧ inB v 0 (G.ps.length - 1) = true ∧ 0 ≤ p ∧ p < (rowA G.ps v.toNat).length then portF (rowA G.ps (toA (rowA G.ps v.toNat) p.toNat).toNat) v else -1

end Go.Proofs.Ytfbbkiibhdgojaa
