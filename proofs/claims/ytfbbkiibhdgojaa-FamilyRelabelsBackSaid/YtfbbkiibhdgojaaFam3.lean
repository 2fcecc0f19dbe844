/- What Path, Star, Complete, Grid and FromParents of package family answer. -/
import Derived.Test.YtfbbkiibhdgojaaFam2
namespace Go.Proofs.Ytfbbkiibhdgojaa
open Go.RowKit

theorem free_box {w w' : World} {C : Array Value} {t : TypeId} (h : Below (w.heap.size + 1) (w.alloc (.cells C t)) w') (i : Nat) : w'.frozen? ⟨w.heap.size, i, none⟩ = false :=
  (h.frozen (p := ⟨w.heap.size, i, none⟩) (by simp)).trans (by simp [free_push0])
/-- the result's struct, a box that is older than the graph, is stored -/
theorem own_box {w w1 : World} {o : Int ⊕ Gr} {C : Array Value} {t : TypeId} {a1 a2 : Option Addr} {l1 c1 l2 c2 : Nat} {k : Int} {u0 u1 : Value} (hO : OwnG (w.heap.size + 1) o (.slice a1 l1 c1) (.slice a2 l2 c2) k w1) (hb : Below (w.heap.size + 1) (w.alloc (.cells C t)) w1) :
    FamOwn w.heap.size o (famRet (.slice a1 l1 c1) (.slice a2 l2 c2) k) ((w1.setCell ⟨w.heap.size, 0, none⟩ u0).setCell ⟨w.heap.size, 1, none⟩ u1) ∧ Below w.heap.size w ((w1.setCell ⟨w.heap.size, 0, none⟩ u0).setCell ⟨w.heap.size, 1, none⟩ u1) :=
  ⟨⟨_, _, _, _, _, _, _, rfl, (hO.far ((grown_set w1 w.heap.size 0 u0).trans (grown_set _ w.heap.size 1 u1)) (by omega)).mono (by omega)⟩, ((belBox hb).setCell (Nat.le_refl _) _).setCell (Nat.le_refl _) _⟩

end Go.Proofs.Ytfbbkiibhdgojaa
