/- What Grid and FromParents of package family answer. -/
import Derived.Test.YtfbbkiibhdgojaaFam3
namespace Go.Proofs.Ytfbbkiibhdgojaa
open Go.RowKit

theorem free_boxB {w w' : World} {C D : Array Value} {t u : TypeId} (h : Below (w.heap.size + 2) ((w.alloc (.cells C t)).alloc (.cells D u)) w') (i : Nat) : w'.frozen? ⟨w.heap.size + 1, i, none⟩ = false :=
  (h.frozen (p := ⟨w.heap.size + 1, i, none⟩) (by simp)).trans (by simp [free_push0])
theorem own_box2 {w w1 : World} {o : Int ⊕ Gr} {C D : Array Value} {t u : TypeId} {a1 a2 : Option Addr} {l1 c1 l2 c2 : Nat} {k : Int} {u0 u1 : Value} (hO : OwnG (w.heap.size + 2) o (.slice a1 l1 c1) (.slice a2 l2 c2) k w1) (hb : Below (w.heap.size + 2) ((w.alloc (.cells C t)).alloc (.cells D u)) w1) :
    FamOwn w.heap.size o (famRet (.slice a1 l1 c1) (.slice a2 l2 c2) k) ((w1.setCell ⟨w.heap.size + 1, 0, none⟩ u0).setCell ⟨w.heap.size + 1, 1, none⟩ u1) ∧ Below w.heap.size w ((w1.setCell ⟨w.heap.size + 1, 0, none⟩ u0).setCell ⟨w.heap.size + 1, 1, none⟩ u1) :=
  ⟨⟨_, _, _, _, _, _, _, rfl, (hO.far ((grown_set w1 (w.heap.size + 1) 0 u0).trans (grown_set _ (w.heap.size + 1) 1 u1)) (by omega)).mono (by omega)⟩, ((belBox2 hb).setCell (Nat.le_succ _) _).setCell (Nat.le_succ _) _⟩

def gridPO (wd ht : Int) : Int ⊕ Gr := if inB wd 1 24 ∧ inB ht 1 24 then relO (gridN wd.toNat) (wd * ht) else .inl 2
/-! ### FromParents -/
def parPok (zs : List Int) : Prop := 0 < zs.length ∧ idA zs 0 = -1 ∧ ∀ v, 1 ≤ v → v < zs.length → 0 ≤ idA zs v ∧ idA zs v < v
noncomputable def parPO (zs : List Int) : Int ⊕ Gr := open Classical in if parPok zs then relO (parN zs) zs.length else .inl 2
end Go.Proofs.Ytfbbkiibhdgojaa
