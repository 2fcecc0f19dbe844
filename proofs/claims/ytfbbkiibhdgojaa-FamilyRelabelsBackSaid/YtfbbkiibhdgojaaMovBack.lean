/- Renumbering back gives the graph again; distances go along. -/
import Derived.Test.YtfbbkiibhdgojaaMovMath
namespace Go.Proofs.Ytfbbkiibhdgojaa
open Go.RowKit

section
variable {zs ys : List Int} {n : Nat} {G : Gr}
/-- ys is the inverse of zs -/
def Undo (zs ys : List Int) : Prop := ys.length = zs.length ∧ ∀ v, v < zs.length → idA ys (idA zs v).toNat = v
theorem undo_perm (h : permOk zs n) (hu : Undo zs ys) : permOk ys n := by
  have hl : (zs.length : Int) = n := h.1
  have key : ∀ u, u < n → idA ys u = invP zs u := fun u hu' => by
    have := hu.2 (invP zs u) (inv_lt h hu')
    rw [inv_at h hu', Int.toNat_natCast] at this
    exact this
  refine ⟨by rw [hu.1]; exact hl, fun i hi => permAt_of ?_ fun k hk e => ?_⟩
  · have := inv_lt h (u := i) (by have := hu.1; omega)
    rw [key i (by have := hu.1; omega)]
    have := hu.1
    omega
  · have hin : i < n := by have := hu.1; omega
    rw [key k (by omega), key i hin] at e
    have e1 := inv_at h (u := k) (by omega)
    have e2 := inv_at h hin
    rw [show invP zs k = invP zs i by omega, e2] at e1
    omega
theorem undo_inv (h : permOk zs n) (hu : Undo zs ys) {v : Nat} (hv : v < n) : invP ys v = (idA zs v).toNat := by
  have hl : (zs.length : Int) = n := h.1
  have hp := permAt_in (h.2 v (by omega))
  have e := inv_of (undo_perm h hu) (v := (idA zs v).toNat) (by have := hu.1; omega)
  rwa [hu.2 v (by omega), Int.toNat_natCast] at e
theorem mov_back (hV : ValidG G) (h : permOk zs G.ps.length) (hu : Undo zs ys) : movG (movG G zs) ys = G := by
  have hl : (zs.length : Int) = G.ps.length := h.1
  have hpn : ∀ v, v < G.ps.length → (idA zs v).toNat < G.ps.length := fun v hv => by
    have := permAt_in (h.2 v (by omega))
    omega
  have hids : (movG (movG G zs) ys).ids = G.ids := by
    apply List.ext_getElem (by simp [movG, hV.ids])
    intro i h1 h2
    have hi : i < G.ps.length := by rw [← hV.ids]; exact h2
    have e := movG_id (G := movG G zs) (zs := ys) (u := i) (by rw [movG_len]; exact hi)
    rw [undo_inv h hu hi, movG_id (hpn i hi), inv_of h (by omega), idA_get h1, idA_get h2] at e
    exact e
  have hps : (movG (movG G zs) ys).ps = G.ps := by
    apply List.ext_getElem (by simp [movG])
    intro i h1 h2
    have e := movG_row (G := movG G zs) (zs := ys) (u := i) (by rw [movG_len]; exact h2)
    rw [undo_inv h hu h2, movG_row (hpn i h2), inv_of h (by omega)] at e
    have g1 : rowA (movG (movG G zs) ys).ps i = (movG (movG G zs) ys).ps[i] := by simp [rowA, List.getD, List.getElem?_eq_getElem h1]
    have g2 : rowA G.ps i = G.ps[i] := by simp [rowA, List.getD, List.getElem?_eq_getElem h2]
    rw [← g1, ← g2, e]
    apply List.ext_getElem (by rw [mvR_len, mvR_len])
    intro j h3 h4
    have ht := (hV.links i h2 j h4).1
    have hx : toA (rowA G.ps i) j = (rowA G.ps i)[j].1 := by simp [toA, List.getD, h4]
    rw [hx] at ht
    have hy := hu.2 (rowA G.ps i)[j].1.toNat (by omega)
    simp only [mvR, List.getElem_map]
    rw [hy]
    exact Prod.ext (by show ((rowA G.ps i)[j].1.toNat : Int) = _; omega) rfl
  exact (show ∀ A B : Gr, A.ids = B.ids → A.ps = B.ps → A = B from fun A B e1 e2 => by cases A; cases B; cases e1; cases e2; rfl) _ _ hids hps
theorem mov_reach (hV : ValidG G) (h : permOk zs G.ps.length) {s : Nat} (hs : s < G.ps.length) : ∀ {k v : Nat}, Reach G s k v → Reach (movG G zs) (idA zs s).toNat k (idA zs v).toNat
  | 0, v, hr => by
    obtain rfl : v = s := hr
    rfl
  | k + 1, v, hr => by
    rcases hr with hr | ⟨u, hr, i, hi, e⟩
    · exact .inl (mov_reach hV h hs hr)
    · have hul := hr.lt hV hs
      have hl : (zs.length : Int) = G.ps.length := h.1
      have hp := permAt_in (h.2 u (by omega))
      refine .inr ⟨(idA zs u).toNat, mov_reach hV h hs hr, i, ?_, ?_⟩
      · rw [movG_row (by omega), inv_of h (by omega), mvR_len]
        exact hi
      · rw [movG_row (by omega), inv_of h (by omega), (mvR_at hi).1, e, Int.toNat_natCast]
        have hvl : v < G.ps.length := by have := (hV.links u hul i hi).1; omega
        have := permAt_in (h.2 v (by omega))
        omega
theorem mov_dist (hV : ValidG G) (h : permOk zs G.ps.length) (hu : Undo zs ys) {s v : Nat} (hs : s < G.ps.length) (hv : v < G.ps.length) : distF (movG G zs) (idA zs s).toNat (idA zs v).toNat = distF G s v := by
  have hl : (zs.length : Int) = G.ps.length := h.1
  have back : ∀ k, Reach (movG G zs) (idA zs s).toNat k (idA zs v).toNat → Reach G s k v := fun k hr => by
    have hp := permAt_in (h.2 s (by omega))
    have := mov_reach (zs := ys) (mov_valid hV h) (by rw [movG_len]; exact undo_perm h hu) (by rw [movG_len]; omega) hr
    rw [mov_back hV h hu, hu.2 s (by omega), hu.2 v (by omega), Int.toNat_natCast, Int.toNat_natCast] at this
    exact this
  rcases distF_is G s v with ⟨k, e, h1, h2⟩ | ⟨e, h2⟩
  · have h3 := mov_reach hV h hs h1
    rcases distF_is (movG G zs) (idA zs s).toNat (idA zs v).toNat with ⟨m, e2, h4, h5⟩ | ⟨_, h5⟩
    · have a1 := h5 k h3
      have a2 := h2 m (back m h4)
      omega
    · exact absurd h3 (h5 k)
  · rcases distF_is (movG G zs) (idA zs s).toNat (idA zs v).toNat with ⟨m, e2, h4, h5⟩ | ⟨e2, _⟩
    · exact absurd (back m h4) (h2 m)
    · omega
end
end Go.Proofs.Ytfbbkiibhdgojaa
