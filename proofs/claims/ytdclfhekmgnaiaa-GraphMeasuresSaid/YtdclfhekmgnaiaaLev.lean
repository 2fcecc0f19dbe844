/- Distances level by level, as the specification has them; the greatest of them. No program in sight. -/
import Derived.Test.YtdclfhekmgnaiaaGraph8
namespace Go.Proofs.Ytdclfhekmgnaiaa

/-- the distance of u if it is at most d, else -1 -/
noncomputable def levF (G : Gr) (s : Nat) (d : Nat) (u : Nat) : Int := if 0 ≤ distF G s u ∧ distF G s u ≤ d then distF G s u else -1
/-- level d + 1 is under way, at node v -/
noncomputable def stF (G : Gr) (s : Nat) (d v u : Nat) : Int := if u < v then levF G s (d + 1) u else levF G s d u

theorem levF_start (G : Gr) (s : Nat) : levF G s 0 = upd noneF s 0 := by
  funext u
  unfold levF
  by_cases h : u = s
  · subst h
    rw [upd_same, (distF_zero (G := G) (s := u) (v := u)).2 rfl]
    rfl
  · rw [upd_other h, noneF_at, if_neg]
    intro ⟨h1, h2⟩
    exact h ((distF_zero (G := G) (s := s) (v := u)).1 (by omega))
theorem levF_end {G : Gr} (hV : ValidG G) {s u d : Nat} (hs : s < G.ps.length) (hd : G.ps.length ≤ d + 1) : levF G s d u = distF G s u := by
  unfold levF
  have h1 := distF_lt hV hs (v := u)
  have h2 := distF_low G s u
  split
  · rfl
  · omega
theorem stF_start (G : Gr) (s d : Nat) : stF G s d 0 = levF G s d := by
  funext u
  simp [stF]
theorem stF_end {G : Gr} {s d n u : Nat} (hu : u < n) : stF G s d n u = levF G s (d + 1) u := by
  simp [stF, hu]
theorem stF_self (G : Gr) (s d v : Nat) : stF G s d v v = levF G s d v := by simp [stF]
theorem stF_step {G : Gr} {s d v : Nat} (h : levF G s (d + 1) v = levF G s d v) : stF G s d (v + 1) = stF G s d v := by
  funext u
  unfold stF
  by_cases h1 : u < v
  · rw [if_pos h1, if_pos (by omega)]
  · by_cases h2 : u = v
    · subst h2
      rw [if_pos (by omega), if_neg h1, h]
    · rw [if_neg (by omega), if_neg h1]
theorem stF_upd {G : Gr} {s d v : Nat} (h : levF G s (d + 1) v = ((d : Int) + 1)) : stF G s d (v + 1) = upd (stF G s d v) v ((d : Int) + 1) := by
  funext u
  by_cases h2 : u = v
  · subst h2
    rw [upd_same]
    unfold stF
    rw [if_pos (by omega), h]
  · rw [upd_other h2]
    unfold stF
    by_cases h1 : u < v
    · rw [if_pos h1, if_pos (by omega)]
    · rw [if_neg (by omega), if_neg h1]
theorem levF_known {G : Gr} {s d v : Nat} (h : 0 ≤ levF G s d v) : levF G s (d + 1) v = levF G s d v := by
  unfold levF at h ⊢
  split at h
  · rename_i hc
    rw [if_pos hc, if_pos (by omega)]
  · omega
theorem levF_low (G : Gr) (s d v : Nat) : -1 ≤ levF G s d v ∧ levF G s d v ≤ d := by
  unfold levF
  split <;> omega
theorem stF_low (G : Gr) (s d v u : Nat) : -1 ≤ stF G s d v u ∧ stF G s d v u ≤ d + 1 := by
  have h1 := levF_low G s d u
  have h2 := levF_low G s (d + 1) u
  unfold stF
  split <;> omega
theorem stF_at {G : Gr} {s d v u : Nat} : stF G s d v u = d ↔ distF G s u = d := by
  unfold stF levF
  split <;> split <;> omega
theorem levF_hit {G : Gr} (hV : ValidG G) {s d v u : Nat} (hv : v < G.ps.length) (h : levF G s d v < 0) (ha : Adj G v u) (hu : distF G s u = d) : levF G s (d + 1) v = ((d : Int) + 1) := by
  have hul := ha.lt hV hv
  have h1 := distF_adj hV (s := s) hul.1 (ha.symm hV hv) (by omega)
  unfold levF at h ⊢
  split at h
  · omega
  · rename_i hc
    rw [if_pos (by omega)]
    omega
theorem levF_miss {G : Gr} (hV : ValidG G) {s d v : Nat} (hs : s < G.ps.length) (h : levF G s d v < 0) (hn : ∀ u, Adj G v u → distF G s u ≠ d) : levF G s (d + 1) v = levF G s d v := by
  unfold levF at h ⊢
  split at h
  · rename_i hc
    omega
  · rename_i hc
    rw [if_neg hc, if_neg]
    intro ⟨h1, h2⟩
    obtain ⟨u, ha, hu⟩ := distF_near hV hs (v := v) (by omega)
    exact hn u ha (by omega)

/-- the greatest of the first k, or -1 -/
def mx (f : Nat → Int) : Nat → Int
  | 0 => -1
  | k + 1 => max (mx f k) (f k)
theorem mx_max {f : Nat → Int} : ∀ {k : Nat}, (∀ i, i < k + 1 → 0 ≤ f i) → mx f (k + 1) = maxF f k
  | 0, h => by
    have := h 0 (by omega)
    simp only [mx, maxF]
    omega
  | k + 1, h => by
    rw [mx, mx_max (k := k) (fun i hi => h i (by omega)), maxF]
theorem mx_low (f : Nat → Int) : ∀ k, -1 ≤ mx f k
  | 0 => by simp [mx]
  | k + 1 => by
    have := mx_low f k
    unfold mx
    omega
theorem mx_lt {f : Nat → Int} {b : Int} (hb : 0 ≤ b) : ∀ k, (∀ i, i < k → f i < b) → mx f k < b
  | 0, _ => by simp only [mx]; omega
  | k + 1, h => by
    have h1 := mx_lt hb k (fun i hi => h i (by omega))
    have h2 := h k (by omega)
    unfold mx
    omega
open Classical in
noncomputable def greatF (f : Nat → Int) (n : Nat) : Int := if ∀ i, i < n → 0 ≤ f i then mx f n else -1
theorem greatF_all {f : Nat → Int} {n : Nat} (h : ∀ i, i < n → 0 ≤ f i) : greatF f n = mx f n := by unfold greatF; rw [if_pos h]
theorem greatF_some {f : Nat → Int} {n i : Nat} (hi : i < n) (h : f i < 0) : greatF f n = -1 := by
  unfold greatF
  rw [if_neg]
  intro h2
  have := h2 i hi
  omega

/-- how long the list of distances from v is -/
noncomputable def lenF (G : Gr) (v : Int) : Nat := if validB G = true ∧ inB v 0 (G.ps.length - 1) = true then G.ps.length else 0
theorem great_ecc (G : Gr) (v : Int) : greatF (distF G v.toNat) (lenF G v) = eccF G v := by
  unfold lenF eccF
  by_cases hc : validB G = true ∧ inB v 0 (G.ps.length - 1) = true
  · have hV := validB_iff.1 hc.1
    have hb := inB_true hc.2
    have hp := hV.pos
    rw [if_pos hc]
    by_cases h : connB G = true
    · rw [if_pos ⟨h, hc.2⟩]
      have h1 : ∀ i, i < G.ps.length → 0 ≤ distF G v.toNat i := fun i hi => conn_all h (by omega) hi
      rw [greatF_all h1]
      obtain ⟨m, hm⟩ : ∃ m, G.ps.length = m + 1 := ⟨G.ps.length - 1, by omega⟩
      rw [hm] at h1 ⊢
      exact mx_max h1
    · rw [if_neg (fun h2 => h h2.1)]
      have h3 : ∃ i, i < G.ps.length ∧ distF G v.toNat i < 0 := by
        apply Classical.byContradiction
        intro hno
        have hall : ∀ i, i < G.ps.length → 0 ≤ distF G v.toNat i := fun i hi => by
          apply Classical.byContradiction
          intro h4
          exact hno ⟨i, hi, by omega⟩
        refine h (connB_iff.2 ⟨hV, fun i hi e => ?_⟩)
        have h5 := hall 0 (by omega)
        rw [distF_symm hV (by omega) (by omega)] at h5
        have h6 := distF_tri (G := G) h5 (hall i hi)
        omega
      obtain ⟨i, hi, h4⟩ := h3
      exact greatF_some hi h4
  · rw [if_neg hc, if_neg]
    · rfl
    · intro h
      exact hc ⟨validB_iff.2 (connB_iff.1 h.1).1, h.2⟩
theorem eccF_low (G : Gr) (v : Int) : -1 ≤ eccF G v ∧ eccF G v < 24 := by
  rw [← great_ecc]
  unfold greatF
  split
  · refine ⟨mx_low _ _, mx_lt (by decide) _ fun i hi => ?_⟩
    unfold lenF at hi
    split at hi
    · rename_i hc
      have hV := validB_iff.1 hc.1
      have := inB_true hc.2
      have := distF_lt hV (s := v.toNat) (v := i) (by omega)
      have := hV.le
      omega
    · omega
  · omega
theorem conn_ecc (G : Gr) : decide (0 ≤ eccF G 0) = connB G := by
  unfold eccF
  by_cases h : connB G = true
  · have hV := (connB_iff.1 h).1
    have hp := hV.pos
    rw [if_pos ⟨h, inB_mk (by omega)⟩, h]
    have h1 := maxF_ge (f := distF G (0 : Int).toNat) (i := 0) (k := G.ps.length - 1) (by omega)
    have h2 := conn_all h (a := 0) (b := 0) (by omega) (by omega)
    exact decide_eq_true (by
      have e : (0 : Int).toNat = 0 := rfl
      rw [e] at h1 ⊢
      omega)
  · have h2 : connB G = false := by simpa using h
    rw [if_neg (fun h3 => h h3.1), h2]
    rfl
/-- the greatest of 0 and the first k eccentricities -/
noncomputable def dmF (G : Gr) : Nat → Int
  | 0 => 0
  | k + 1 => max (dmF G k) (eccF G k)
theorem dmF_low (G : Gr) : ∀ k, 0 ≤ dmF G k ∧ dmF G k < 24
  | 0 => by simp [dmF]
  | k + 1 => by
    have := dmF_low G k
    have := eccF_low G k
    unfold dmF
    omega
theorem dmF_end {G : Gr} (h : connB G = true) : dmF G G.ps.length = diamF G := by
  have hV := (connB_iff.1 h).1
  have hp := hV.pos
  have key : ∀ k, k < G.ps.length → dmF G (k + 1) = maxF (fun v => maxF (distF G v) (G.ps.length - 1)) k := by
    intro k
    induction k with
    | zero =>
      intro hk
      have h1 := eF_bounds h hk
      have h2 := ecc_eq h hk
      unfold dmF dmF maxF
      unfold eF at h1 h2
      omega
    | succ k ih =>
      intro hk
      have h2 := ecc_eq h hk
      rw [dmF, ih (by omega), maxF, h2]
      rfl
  unfold diamF
  rw [if_pos h]
  have := key (G.ps.length - 1) (by omega)
  rw [← this]
  congr 1
  omega
end Go.Proofs.Ytdclfhekmgnaiaa
