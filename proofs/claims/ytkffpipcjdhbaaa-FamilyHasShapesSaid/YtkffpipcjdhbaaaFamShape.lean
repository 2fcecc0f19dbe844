/- Graphs by a relation: valid, their neighbours, distances by levels. No program in sight. -/
import Derived.Test.YtkffpipcjdhbaaaRefF0
import Derived.Test.YtkffpipcjdhbaaaTree
namespace Go.Proofs.Ytkffpipcjdhbaaa
open Go.RowKit

/-- the graph of n nodes in which k and u are neighbours if c says so -/
def relR (c : Nat → Nat → Bool) (n : Nat) : Gr := famG n fun k => selR c k n
theorem famG_row {n v : Nat} {R : Nat → List (Int × Int)} (hv : v < n) : rowA (famG n R).ps v = R v := by simp [famG, rowA, hv]
theorem famG_len (n : Nat) (R : Nat → List (Int × Int)) : (famG n R).ps.length = n := by simp [famG]
theorem ones_at (l : List Nat) {i : Nat} (hi : i < l.length) : toA (l.map fun (u : Nat) => ((u : Int), (1 : Int))) i = l[i] ∧ wtA (l.map fun (u : Nat) => ((u : Int), (1 : Int))) i = 1 := by
  unfold toA wtA
  simp [List.getD, hi]
theorem upTo_at {n i : Nat} (hi : i < n) : idA (upTo n) i = i := by simp [idA, upTo, List.getD, hi]
structure RelOk (c : Nat → Nat → Bool) (n : Nat) : Prop where
  symm : ∀ k u, k < n → u < n → c k u = true → c u k = true
  irr : ∀ k, k < n → c k k = false
theorem mem_sel {c : Nat → Nat → Bool} {k n u : Nat} : u ∈ (List.range n).filter (c k) ↔ u < n ∧ c k u = true := by simp
theorem rel_adj {c : Nat → Nat → Bool} {n u v : Nat} (hu : u < n) : Adj (relR c n) u v ↔ v < n ∧ c u v = true := by
  unfold Adj relR
  rw [famG_row hu, ← mem_sel]
  unfold selR
  rw [List.length_map]
  constructor
  · rintro ⟨i, hi, e⟩
    rw [(ones_at _ hi).1] at e
    have : ((List.range n).filter (c u))[i] = v := by omega
    rw [← this]
    exact List.getElem_mem hi
  · intro h
    obtain ⟨i, hi, e⟩ := List.mem_iff_getElem.1 h
    exact ⟨i, hi, by rw [(ones_at _ hi).1, e]⟩
theorem rel_valid {c : Nat → Nat → Bool} {n : Nat} (h1 : 1 ≤ n) (h2 : n ≤ 24) (h : RelOk c n) : ValidG (relR c n) := by
  have hl : (relR c n).ps.length = n := famG_len n _
  have hrow : ∀ v, v < n → rowA (relR c n).ps v = ((List.range n).filter (c v)).map fun (u : Nat) => ((u : Int), (1 : Int)) := fun v hv => famG_row hv
  refine ⟨by omega, by omega, ?_, ?_, ?_, ?_⟩
  · rw [hl]; simp [relR, famG, upTo_len]
  · intro v hv
    rw [hl] at hv
    show IdOk (upTo n) v
    unfold IdOk
    rw [upTo_at hv]
    refine ⟨by omega, fun k hk => ?_⟩
    rw [upTo_at (by omega)]
    omega
  · intro v hv i hi
    rw [hl] at hv ⊢
    rw [hrow v hv] at hi ⊢
    rw [List.length_map] at hi
    have hm := mem_sel.1 (List.getElem_mem hi)
    have hirr := h.irr v hv
    unfold LinkOk
    rw [(ones_at _ hi).1, (ones_at _ hi).2]
    refine ⟨by omega, ?_, by omega, fun k hk => ?_⟩
    · intro e
      have : ((List.range n).filter (c v))[i] = v := by omega
      rw [this] at hm
      rw [hm.2] at hirr
      cases hirr
    · rw [(ones_at _ (by omega)).1]
      have hp : ((List.range n).filter (c v)).Pairwise (· < ·) := List.pairwise_lt_range.filter _
      have := List.pairwise_iff_getElem.1 hp k i (by omega) hi hk
      omega
  · intro v hv i hi
    rw [hl] at hv
    rw [hrow v hv] at hi
    rw [List.length_map] at hi
    have hm := mem_sel.1 (List.getElem_mem hi)
    unfold MateOk
    rw [hrow v hv, (ones_at _ hi).1, (ones_at _ hi).2, Int.toNat_natCast]
    generalize ((List.range n).filter (c v))[i] = u at hm
    rw [hrow u hm.1]
    have hv2 : v ∈ (List.range n).filter (c u) := mem_sel.2 ⟨hv, h.symm v u hv hm.1 hm.2⟩
    obtain ⟨j, hj, e⟩ := List.mem_iff_getElem.1 hv2
    rcases portF_cases (((List.range n).filter (c u)).map fun (u : Nat) => ((u : Int), (1 : Int))) v with ⟨_, hn⟩ | ⟨k, hk, hp, _, _⟩
    · exact absurd (by rw [(ones_at _ hj).1, e]) (hn j (by rw [List.length_map]; exact hj))
    · rw [hp]
      refine ⟨by omega, ?_⟩
      rw [Int.toNat_natCast]
      rw [List.length_map] at hk
      exact (ones_at _ hk).2

/-! ### Distances by levels -/
theorem reach_level {G : Gr} {s n : Nat} {f : Nat → Nat} (hn : G.ps.length = n) (hV : ValidG G) (hs : s < n) (h0 : f s = 0) (hstep : ∀ u v, u < n → v < n → Adj G u v → f v ≤ f u + 1) : ∀ k v, Reach G s k v → f v ≤ k
  | 0, v, h => by rw [show v = s from h, h0]; exact Nat.le_refl 0
  | k + 1, v, h => by
    rcases h with h | ⟨u, hu, ha⟩
    · have := reach_level hn hV hs h0 hstep k v h; omega
    · have h1 := reach_level hn hV hs h0 hstep k u hu
      have h2 := hu.lt hV (by omega)
      have h3 := (ha.lt hV h2).1
      have := hstep u v (by omega) (by omega) ha
      omega
theorem level_reach {G : Gr} {s n : Nat} {f : Nat → Nat} (hz : ∀ v, v < n → f v = 0 → v = s) (hpred : ∀ v, v < n → 0 < f v → ∃ u, u < n ∧ Adj G u v ∧ f u + 1 = f v) : ∀ k v, v < n → f v = k → Reach G s k v
  | 0, v, hv, h => hz v hv h
  | k + 1, v, hv, h => by
    obtain ⟨u, hu, ha, e⟩ := hpred v hv (by omega)
    exact .inr ⟨u, level_reach hz hpred k u hu (by omega), ha⟩
theorem dist_level {G : Gr} {s n : Nat} {f : Nat → Nat} (hn : G.ps.length = n) (hV : ValidG G) (hs : s < n) (h0 : f s = 0) (hz : ∀ v, v < n → f v = 0 → v = s) (hstep : ∀ u v, u < n → v < n → Adj G u v → f v ≤ f u + 1)
    (hpred : ∀ v, v < n → 0 < f v → ∃ u, u < n ∧ Adj G u v ∧ f u + 1 = f v) {v : Nat} (hv : v < n) : distF G s v = f v :=
  distF_eq (.inl ⟨f v, rfl, level_reach hz hpred (f v) v hv rfl, fun m hm => reach_level hn hV hs h0 hstep m v hm⟩)
/-- the same for a graph by a relation -/
theorem rel_dist {c : Nat → Nat → Bool} {s n : Nat} {f : Nat → Nat} (h1 : 1 ≤ n) (h2 : n ≤ 24) (h : RelOk c n) (hs : s < n) (h0 : f s = 0) (hz : ∀ v, v < n → f v = 0 → v = s) (hstep : ∀ u v, u < n → v < n → c u v = true → f v ≤ f u + 1)
    (hpred : ∀ v, v < n → 0 < f v → ∃ u, u < n ∧ c u v = true ∧ f u + 1 = f v) {v : Nat} (hv : v < n) : distF (relR c n) s v = f v :=
  dist_level (famG_len n _) (rel_valid h1 h2 h) hs h0 hz (fun u v hu hv ha => hstep u v hu hv ((rel_adj hu).1 ha).2) (fun v hv hp => by
    obtain ⟨u, hu, hc, e⟩ := hpred v hv hp
    exact ⟨u, hu, (rel_adj hu).2 ⟨hv, hc⟩, e⟩) hv
theorem rel_conn {c : Nat → Nat → Bool} {n : Nat} {f : Nat → Nat} (h1 : 1 ≤ n) (h2 : n ≤ 24) (h : RelOk c n) (hd : ∀ v, v < n → distF (relR c n) 0 v = f v) : connB (relR c n) = true :=
  connB_iff.2 ⟨rel_valid h1 h2 h, fun v hv => by
    rw [hd v (by rw [← famG_len n]; exact hv)]
    omega⟩
theorem rel_len (c : Nat → Nat → Bool) (n : Nat) : (relR c n).ps.length = n := famG_len n _
end Go.Proofs.Ytkffpipcjdhbaaa
