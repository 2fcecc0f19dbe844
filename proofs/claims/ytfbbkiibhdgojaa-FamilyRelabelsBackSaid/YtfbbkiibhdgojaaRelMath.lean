/- The stages of renumbering: identifiers and rows when the first k nodes are done. -/
import Derived.Test.YtfbbkiibhdgojaaMovMath
import Derived.Test.YtfbbkiibhdgojaaRefF9
import Derived.Test.YtfbbkiibhdgojaaRefF12
namespace Go.Proofs.Ytfbbkiibhdgojaa
open Go.RowKit

def idsM (G : Gr) (zs : List Int) (k : Nat) : List Int := (List.range G.ps.length).map fun u => if invP zs u < k then idA G.ids (invP zs u) else (u : Int)
def rowK (G : Gr) (zs : List Int) (k u : Nat) : List (Int × Int) := if invP zs u < k then mvR zs (rowA G.ps (invP zs u)) else []
/-- .. and i links of node k -/
def rowX (G : Gr) (zs : List Int) (k i u : Nat) : List (Int × Int) := if u = (idA zs k).toNat then mvR zs ((rowA G.ps k).take i) else rowK G zs k u
theorem idsM_len (G : Gr) (zs : List Int) (k : Nat) : (idsM G zs k).length = G.ps.length := by simp [idsM]
theorem idsM_zero (G : Gr) (zs : List Int) : idsM G zs 0 = upTo G.ps.length := by simp [idsM, upTo]
theorem perm_len {zs : List Int} {n : Nat} (h : permOk zs n) : zs.length = n := by have := h.1; omega
theorem inv_iff {zs : List Int} {n : Nat} (h : permOk zs n) {k u : Nat} (hk : k < n) (hu : u < n) : invP zs u = k ↔ u = (idA zs k).toNat := by
  have hl := perm_len h
  constructor
  · intro e
    have := inv_at h hu
    rw [e] at this
    rw [this]
    rfl
  · rintro rfl
    exact inv_of h (by omega)
theorem perm_at {zs : List Int} {n : Nat} (h : permOk zs n) {k : Nat} (hk : k < n) : ∃ d : Nat, idA zs k = d ∧ d < n := by
  have hl := perm_len h
  have := permAt_in (h.2 k (by omega))
  exact ⟨(idA zs k).toNat, by omega, by omega⟩
theorem idsM_step {G : Gr} {zs : List Int} (h : permOk zs G.ps.length) {k d : Nat} (hk : k < G.ps.length) (hd : idA zs k = d) : (idsM G zs k).set d (idA G.ids k) = idsM G zs (k + 1) := by
  refine List.ext_getElem? fun u => ?_
  by_cases hu : u < G.ps.length
  · have hi := inv_iff h hk hu
    rw [hd, Int.toNat_natCast] at hi
    by_cases e : u = d
    · subst e
      rw [List.getElem?_set_self (by rw [idsM_len]; exact hu)]
      have := hi.2 rfl
      simp [idsM, hu, this]
    · rw [List.getElem?_set_ne (fun h => e h.symm)]
      have : invP zs u ≠ k := fun h2 => e (hi.1 h2)
      by_cases h3 : invP zs u < k
      · simp [idsM, hu, h3, show invP zs u < k + 1 by omega]
      · simp [idsM, hu, h3, show ¬ invP zs u < k + 1 by omega]
  · rw [List.getElem?_eq_none (by rw [List.length_set, idsM_len]; omega), List.getElem?_eq_none (by rw [idsM_len]; omega)]
theorem idsM_all {G : Gr} {zs : List Int} (h : permOk zs G.ps.length) : idsM G zs G.ps.length = (movG G zs).ids := by
  unfold idsM movG
  refine List.map_congr_left fun u hu => ?_
  rw [List.mem_range] at hu
  have := inv_lt h hu
  rw [if_pos (by have := perm_len h; omega)]
theorem rowX_begin {G : Gr} {zs : List Int} (h : permOk zs G.ps.length) {k u : Nat} (hk : k < G.ps.length) (hu : u < G.ps.length) : rowX G zs k 0 u = rowK G zs k u := by
  unfold rowX rowK
  by_cases e : u = (idA zs k).toNat
  · have := (inv_iff h hk hu).2 e
    rw [if_pos e, if_neg (by omega)]
    simp [mvR]
  · rw [if_neg e]
theorem rowX_end {G : Gr} {zs : List Int} (h : permOk zs G.ps.length) {k u : Nat} (hk : k < G.ps.length) (hu : u < G.ps.length) : rowK G zs (k + 1) u = rowX G zs k (rowA G.ps k).length u := by
  unfold rowX rowK
  have hi := inv_iff h hk hu
  by_cases e : u = (idA zs k).toNat
  · have := hi.2 e
    rw [if_pos e, if_pos (by omega), this, List.take_length]
  · have h2 : invP zs u ≠ k := fun h3 => e (hi.1 h3)
    rw [if_neg e]
    by_cases h3 : invP zs u < k
    · rw [if_pos h3, if_pos (by omega)]
    · rw [if_neg h3, if_neg (by omega)]
theorem rowX_step {G : Gr} {zs : List Int} {k i d : Nat} (hd : idA zs k = d) (hi : i < (rowA G.ps k).length) : rowX G zs k (i + 1) d = rowX G zs k i d ++ [(idA zs (toA (rowA G.ps k) i).toNat, wtA (rowA G.ps k) i)] := by
  unfold rowX
  rw [hd, Int.toNat_natCast, if_pos rfl, if_pos rfl, List.take_succ_eq_append_getElem hi]
  unfold mvR
  rw [List.map_append]
  simp [toA, wtA, List.getD, hi]
theorem rowX_other {G : Gr} {zs : List Int} {k i u d : Nat} (hd : idA zs k = d) (hu : u ≠ d) : rowX G zs k (i + 1) u = rowX G zs k i u := by
  unfold rowX
  rw [hd, Int.toNat_natCast, if_neg hu, if_neg hu]
theorem rowX_at {G : Gr} {zs : List Int} {k i d : Nat} (hd : idA zs k = d) : rowX G zs k i d = mvR zs ((rowA G.ps k).take i) := by
  unfold rowX
  rw [hd, Int.toNat_natCast, if_pos rfl]
theorem rowK_all {G : Gr} {zs : List Int} (h : permOk zs G.ps.length) {u : Nat} (hu : u < G.ps.length) : rowK G zs G.ps.length u = movR G zs u := by
  unfold rowK movR mvR
  have := inv_lt h hu
  rw [if_pos (by have := perm_len h; omega)]
theorem rowK_zero {G : Gr} {zs : List Int} (u : Nat) : rowK G zs 0 u = [] := by simp [rowK]
theorem rowK_bare (G : Gr) (zs : List Int) (n : Nat) : RowsR n (rowK G zs 0) (bare n) := (RowsR.bare n (rowK G zs 0)).congr fun v _ => by simp [upR, rowK]
theorem idA_I64 {zs : List Int} (hz : ∀ z ∈ zs, I64 z) (i : Nat) : I64 (idA zs i) := by
  by_cases h : i < zs.length
  · rw [idA_get h]
    exact hz _ (List.getElem_mem _)
  · have : idA zs i = 0 := by simp [idA, List.getD, h]
    rw [this]
    exact ⟨by decide, by decide⟩
theorem mov_fit {G : Gr} {zs : List Int} (h : FitG G) (hz : ∀ z ∈ zs, I64 z) (hp : permOk zs G.ps.length) : FitG (movG G zs) := by
  have hzl := perm_len hp
  refine ⟨fun z hz' => ?_, fun p hp' x hx => ?_⟩
  · obtain ⟨u, hu, rfl⟩ := List.mem_map.1 hz'
    exact idA_I64 h.1 _
  · obtain ⟨u, hu, rfl⟩ := List.mem_map.1 hp'
    rw [List.mem_range] at hu
    have hi := inv_lt hp hu
    unfold movR at hx
    obtain ⟨y, hy, rfl⟩ := List.mem_map.1 hx
    have hrow : rowA G.ps (invP zs u) ∈ G.ps := by
      have : rowA G.ps (invP zs u) = G.ps[invP zs u]'(by omega) := by simp [rowA, List.getD, show invP zs u < G.ps.length by omega]
      rw [this]
      exact List.getElem_mem _
    exact ⟨idA_I64 hz _, (h.2 _ hrow y hy).2⟩
end Go.Proofs.Ytfbbkiibhdgojaa
