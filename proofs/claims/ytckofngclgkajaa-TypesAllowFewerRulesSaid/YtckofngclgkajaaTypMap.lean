/- Maps of the call's own whose elements are all true: sets of keys. -/
import Derived.Test.YtckofngclgkajaaTypP5
import Derived.Maps.OwnSet
namespace Go.Proofs.Ytckofngclgkajaa
set_option maxRecDepth 100000
open Go.RowKit Go.Maps

/-- block b is a map in which just the keys of L are true -/
def KMap (k : TypeId) (w : World) (b : Nat) (L : List Lit) : Prop := ∃ D : DataW Unit, w.ownsMap Try.prog k (plainElem Try.prog 4) b L.length D ∧ ∀ kl, ∃ c : Bool, D.atKey kl (.lit (.bool false)) = .lit (.bool c) ∧ (c = true ↔ kl ∈ L)
section
variable {k t : TypeId} {w w' : World} {b : Nat} {L : List Lit}
theorem KMap.made (w : World) (k : TypeId) : KMap k (w.alloc (.map #[] 0)) w.heap.size [] :=
  ⟨.map [], World.ownsMap_made w _ _ _, fun kl => ⟨false, rfl, by simp⟩⟩
theorem KMap.kept {row : Option Nat} (h : KMap k w b L) (hg : w.grownBy w' row) (hne : some b ≠ row) : KMap k w' b L := by
  obtain ⟨D, h1, h2⟩ := h
  exact ⟨D, h1.kept hg hne, h2⟩
theorem KMap.far (h : KMap k w b L) (hb : Below w.heap.size w w') : KMap k w' b L := h.kept (grown_below hb none) (by simp)
theorem KMap.lt (h : KMap k w b L) : b < w.heap.size := by
  obtain ⟨D, h1, _⟩ := h
  exact h1.lt
theorem plain_bool_inv {v : Value} {c : Bool} {ps : List MemPlace} (h : plainElem (H := Unit) Try.prog 4 v = some (.lit (.bool c), ps)) : v = .bool c := by
  unfold plainElem at h
  rw [Try.underlying4] at h
  cases v <;> simp at h
  rw [h.1]
theorem KMap.look (h : KMap k w b L) (K : Keyed Try.prog k) (ht : Try.prog.underlying t = some (.map k 4)) {key : Value} {kl : Lit} (hkey : keyOf Try.prog k key = some kl) :
    ∃ c : Bool, (Instr.lookup t (.map (some b)) key false).run Try.prog w = .ok (.bool c) w ∧ (c = true ↔ kl ∈ L) := by
  obtain ⟨D, h1, h2⟩ := h
  obtain ⟨v, ps, hrun, hv⟩ := h1.lookup K ht (z := .bool false) (by kernel_rfl) (plainElem_bool Try.underlying4 false) hkey
  obtain ⟨c, hc, hin⟩ := h2 kl
  rw [hc] at hv
  exact ⟨c, by rw [hrun, plain_bool_inv hv], hin⟩
theorem KMap.put {kl : Lit} {D : DataW Unit} (K : WideAt.IsKeyLit kl) (h0 : w.ownsMap Try.prog k (plainElem Try.prog 4) b L.length D) (hat : ∀ kl, ∃ c : Bool, D.atKey kl (.lit (.bool false)) = .lit (.bool c) ∧ (c = true ↔ kl ∈ L)) (h : w'.ownsMap Try.prog k (plainElem Try.prog 4) b (L.length + 1) (D.put kl (.lit (.bool true)))) : KMap k w' b (L ++ [kl]) := by
  refine ⟨_, by rw [List.length_append]; exact h, fun q => ?_⟩
  have hm : IsMap D := by
    obtain ⟨_, _, _, _, _, rfl⟩ := h0
    exact ⟨_, rfl⟩
  by_cases hq : q = kl
  · subst hq
    exact ⟨true, atKey_put_same hm K _ _, by simp⟩
  · obtain ⟨c, hc, hin⟩ := hat q
    exact ⟨c, by rw [atKey_put_other hq]; exact hc, by rw [hin]; simp [hq]⟩
end
end Go.Proofs.Ytckofngclgkajaa
