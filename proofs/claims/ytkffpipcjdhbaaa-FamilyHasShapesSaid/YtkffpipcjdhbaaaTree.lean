/- What Tree of package graph answers. -/
import Derived.Test.YtkffpipcjdhbaaaSize
import Derived.Test.YtkffpipcjdhbaaaHand
namespace Go.Proofs.Ytkffpipcjdhbaaa
open Go.RowKit

noncomputable def treeB (G : Gr) : Bool := connB G && (linksF G == nodesF G - 1)

theorem linksF_le (G : Gr) : 0 ≤ nodesF G ∧ nodesF G ≤ 24 ∧ 0 ≤ linksF G ∧ linksF G ≤ 576 := by
  unfold nodesF linksF
  cases hv : validB G
  · simp
  · have hV := validB_iff.1 hv
    have h1 := hV.le
    have h2 := allLinks_len hV.links hV.le _ (Nat.le_refl _)
    simp
    omega

set_option maxHeartbeats 400000 in
theorem tree_any (ia pa : Option Addr) (il ic pl pc : Nat) (G : Gr) (w : World) (hG : GraphAt w ia il pa pl G) :
    Calls Try.prog 35 #[.agg #[.slice ia il ic, .slice pa pl pc]] w fun e w' => e = .returned (.bool (treeB G)) ∧ Below w.heap.size w w' := by
  have Hf := Lib.hid (show treeB G = (connB G && (linksF G == nodesF G - 1)) from rfl)
  obtain ⟨h1, h2, h3, h4⟩ := linksF_le G
  cases hc : connB G
  all_goals cases hq : (linksF G == nodesF G - 1)
  all_goals
    rw [hc, hq] at Hf
    go_enter Try.func35, Try.ntmps35
    go_wp2_with (first | (go_at_call 63; refine (size_any _ _ _ _ _ _ G _ (hG.alloc _)).mono ?_; rintro e w1 ⟨rfl, hb1⟩; have hbx : Below (w.heap.size + 1) (w.alloc (.cells #[.slice ia il ic, .slice pa pl pc] 26)) w1 := hb1.mono (by simp); have hx0 : w1.cell? ⟨w.heap.size, 0, none⟩ = some (.slice ia il ic) := boxed hbx 0; have hx1 : w1.cell? ⟨w.heap.size, 1, none⟩ = some (.slice pa pl pc) := boxed hbx 1) | (go_at_call 65; refine (connected_any _ _ _ _ _ _ G _ (hG.below (belBox hbx))).mono ?_; rintro e w2 ⟨rfl, hb2⟩; rw [hc]))
    go_ret
    exact ⟨ret_bool (by rw [Hf.out]; rfl), (belBox hbx).trans (hb2.mono (belBox hbx).size)⟩
end Go.Proofs.Ytkffpipcjdhbaaa
