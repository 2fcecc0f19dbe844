/- Renamed variables, of which each has the type of the old one, leave a type as it is. No program in it. -/
import Derived.Test.YtckofngclgkajaaTypMath3
import Derived.Test.YtckofngclgkajaaTermGrow
namespace Go.Proofs.Ytckofngclgkajaa
set_option maxRecDepth 100000

theorem renT_op7 (m : List Int) (t : Int × Int) : (renT m t).1 = t.1 := by
  unfold renT
  split <;> rfl
theorem renT_leaf {ks ls m : List Int} (hs : ∀ i, i < ks.length → idA ls (idA m i).toNat = idA ks i) {t : Int × Int} (ha : argB t ks.length = true) (b : Bool) : leafK (renT m t) ls b = leafK t ks b := by
  unfold renT
  split
  · rename_i h
    unfold argB at ha
    rw [if_neg (by omega), if_pos h] at ha
    simp at ha
    have e := hs t.2.toNat (by omega)
    unfold leafK
    dsimp only
    rw [e]
  · rename_i h
    unfold leafK
    rw [if_neg h, if_neg h]
theorem of_ren {xs : List (Int × Int)} {ks ls m : List Int} {b : Bool} {k f : Int} (h : OfSays xs ks b k f) (hok : okT xs ks = true) (hm : Names m ks.length 6) (hl : ls.length = 6) (hls : kindsOk ls) (hs : ∀ i, i < ks.length → idA ls (idA m i).toNat = idA ks i) : OfSays (renL xs m) ls b k f := by
  rcases h with ⟨h, _⟩ | ⟨_, x, rfl, hw, ha, rfl, rfl⟩
  · rw [hok] at h; cases h
  have hv := validE_ren (okT_parts hok).2.2 hm
  have hok2 : okT (renL x.flat m) ls = true := by
    unfold okT
    rw [decide_eq_true (by omega), Bool.true_and, Bool.and_eq_true]
    refine ⟨List.all_eq_true.2 fun y hy => ?_, by rw [hl]; exact hv⟩
    have := hls y hy
    unfold knownK
    rw [decide_eq_true this]
  have hle : ∀ t ∈ x.flat, ∀ b, leafK (renT m t) ls b = leafK t ks b := fun t ht b => renT_leaf hs (List.all_eq_true.1 ha t ht) b
  have hflat : (x.turn (renT m)).flat = renL x.flat m := turn_flat _ x
  refine .inr ⟨hok2, x.turn (renT m), hflat, turn_wf (renT_op7 m) x hw, ?_, ?_⟩
  · obtain ⟨_, _, _, ha2, _⟩ := valid_tree7 (okT_parts hok2).2.2
    unfold Ex.args
    rw [hflat]
    unfold validE at hv
    simp only [Bool.and_eq_true] at hv
    rw [hl]
    exact hv.2
  · rw [turn_kind (renT_op7 m) x b hle]
    exact ⟨rfl, rfl⟩
end Go.Proofs.Ytckofngclgkajaa
