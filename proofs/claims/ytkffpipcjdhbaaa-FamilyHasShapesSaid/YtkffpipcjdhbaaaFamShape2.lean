/- Rings, paths, stars, complete graphs and grids: valid graphs, their numbers of links, their diameters. No program in sight. -/
import Derived.Test.YtkffpipcjdhbaaaFamTree
import Derived.Test.YtkffpipcjdhbaaaFamMath
namespace Go.Proofs.Ytkffpipcjdhbaaa
open Go.RowKit

/-- what is known of a shape: nodes, links, diameter -/
structure Shape (G : Gr) (n links diam : Nat) : Prop where
  len : G.ps.length = n
  valid : ValidG G
  conn : connB G = true
  links : (allLinks G n).length = links
  diam : diamF G = diam
theorem Shape.nodesF {G : Gr} {n l d : Nat} (h : Shape G n l d) : nodesF G = n := by unfold Go.Proofs.Ytkffpipcjdhbaaa.nodesF; rw [if_pos (validB_mk h.valid), h.len]
theorem Shape.linksF {G : Gr} {n l d : Nat} (h : Shape G n l d) : linksF G = l := by unfold Go.Proofs.Ytkffpipcjdhbaaa.linksF; rw [if_pos (validB_mk h.valid), h.len, h.links]
theorem Shape.tree {G : Gr} {n l d : Nat} (h : Shape G n l d) (hl : l + 1 = n) : treeB G = true := by
  unfold treeB
  rw [h.conn, h.linksF, h.nodesF]
  simp
  omega
theorem Shape.noTree {G : Gr} {n l d : Nat} (h : Shape G n l d) (hl : l + 1 ≠ n) : treeB G = false := by
  unfold treeB
  rw [h.conn, h.linksF, h.nodesF]
  simp
  omega
def mm (f : Nat → Nat → Nat) (n : Nat) : Int := maxF (fun v => maxF (fun u => (f v u : Int)) (n - 1)) (n - 1)
theorem shape_mk {G : Gr} {n l d : Nat} {f : Nat → Nat → Nat} (hn : G.ps.length = n) (h1 : 1 ≤ n) (hV : ValidG G) (hd : ∀ s v, s < n → v < n → distF G s v = f s v) (hl : degSum G n = 2 * l) (hm : mm f n = d) : Shape G n l d := by
  have hc : connB G = true := connB_iff.2 ⟨hV, fun v hv => by rw [hd 0 v (by omega) (by omega)]; omega⟩
  refine ⟨hn, hV, hc, ?_, ?_⟩
  · have := handshake hV
    rw [hn, hl] at this
    omega
  · unfold diamF
    rw [if_pos hc, hn, ← hm]
    unfold mm
    refine maxF_congr fun i hi => ?_
    exact maxF_congr fun j hj => hd i j (by omega) (by omega)
/-- a graph by a relation of pairs -/
theorem rel_shape {near : Nat → Nat → Bool} {n l d : Nat} {f : Nat → Nat → Nat} (h1 : 1 ≤ n) (h2 : n ≤ 24) (h0 : ∀ s, s < n → f s s = 0) (hz : ∀ s v, s < n → v < n → f s v = 0 → v = s) (hstep : ∀ s u v, s < n → u < n → v < n → relC near u v = true → f s v ≤ f s u + 1)
    (hpred : ∀ s v, s < n → v < n → 0 < f s v → ∃ u, u < n ∧ relC near u v = true ∧ f s u + 1 = f s v) (hl : degSum (relG near n) n = 2 * l) (hm : mm f n = d) : Shape (relG near n) n l d :=
  shape_mk (rel_len _ n) h1 (rel_valid h1 h2 (relC_ok near n)) (fun s _ hs hv => rel_dist h1 h2 (relC_ok near n) hs (h0 s hs) (fun v hv => hz s v hs hv) (fun u v hu hv => hstep s u v hs hu hv) (fun v hv => hpred s v hs hv) hv) hl hm

/-! ### Paths, stars, complete graphs -/
def pathD (s v : Nat) : Nat := (s - v) + (v - s)
def starD (s v : Nat) : Nat := if s = v then 0 else if s = 0 ∨ v = 0 then 1 else 2
def compD (s v : Nat) : Nat := if s = v then 0 else 1
theorem path_num : ∀ n, n < 25 → 1 ≤ n → degSum (relG pathN n) n = 2 * (n - 1) ∧ mm pathD n = ((n - 1 : Nat) : Int) := by decide +kernel
theorem star_num : ∀ n, n < 25 → 3 ≤ n → degSum (relG starN n) n = 2 * (n - 1) ∧ mm starD n = ((2 : Nat) : Int) := by decide +kernel
theorem comp_num : ∀ n, n < 25 → 3 ≤ n → degSum (relG complN n) n = 2 * (n * (n - 1) / 2) ∧ mm compD n = ((1 : Nat) : Int) := by decide +kernel
theorem path_c {u v : Nat} : relC pathN u v = true ↔ (v = u + 1 ∨ u = v + 1) := by
  unfold relC pathN
  simp
  omega
theorem star_c {u v : Nat} : relC starN u v = true ↔ (u ≠ v ∧ (u = 0 ∨ v = 0)) := by
  unfold relC starN
  simp
  omega
theorem comp_c {u v : Nat} : relC complN u v = true ↔ u ≠ v := by
  unfold relC complN
  simp
  omega
theorem path_shape {n : Nat} (h1 : 1 ≤ n) (h2 : n ≤ 24) : Shape (relG pathN n) n (n - 1) (n - 1) := by
  obtain ⟨hl, hm⟩ := path_num n (by omega) h1
  refine rel_shape (f := pathD) h1 h2 (fun s _ => by unfold pathD; omega) (fun s v _ _ h => by unfold pathD at h; omega) (fun s u v _ _ _ h => by rw [path_c] at h; unfold pathD; omega) (fun s v hs hv h => ?_) hl hm
  unfold pathD at h
  rcases Nat.lt_or_ge s v with e | e
  · exact ⟨v - 1, by omega, path_c.2 (by omega), by unfold pathD; omega⟩
  · exact ⟨v + 1, by omega, path_c.2 (by omega), by unfold pathD; omega⟩
theorem star_shape {n : Nat} (h1 : 3 ≤ n) (h2 : n ≤ 24) : Shape (relG starN n) n (n - 1) 2 := by
  obtain ⟨hl, hm⟩ := star_num n (by omega) h1
  refine rel_shape (f := starD) (by omega) h2 (fun s _ => by simp [starD]) (fun s v _ _ h => by unfold starD at h; split at h <;> (try split at h) <;> omega) (fun s u v _ _ _ h => by rw [star_c] at h; unfold starD; split <;> (try split) <;> (try split) <;> (try split) <;> omega) (fun s v hs hv h => ?_) hl hm
  by_cases e0 : s = v
  · subst e0; simp [starD] at h
  · by_cases e1 : s = 0 ∨ v = 0
    · exact ⟨s, hs, star_c.2 ⟨e0, e1⟩, by simp [starD, e0, e1]⟩
    · exact ⟨0, by omega, star_c.2 (by omega), by
        unfold starD
        rw [if_neg (by omega), if_pos (by omega), if_neg e0, if_neg e1]⟩
theorem comp_shape {n : Nat} (h1 : 3 ≤ n) (h2 : n ≤ 24) : Shape (relG complN n) n (n * (n - 1) / 2) 1 := by
  obtain ⟨hl, hm⟩ := comp_num n (by omega) h1
  refine rel_shape (f := compD) (by omega) h2 (fun s _ => by simp [compD]) (fun s v _ _ h => by unfold compD at h; split at h <;> omega) (fun s u v _ _ _ h => by unfold compD; split <;> (try split) <;> omega) (fun s v hs hv h => ?_) hl hm
  by_cases e0 : s = v
  · subst e0; simp [compD] at h
  · exact ⟨s, hs, comp_c.2 e0, by simp [compD, e0]⟩

/-! ### Grids -/
def gridD (w s v : Nat) : Nat := (s % w - v % w) + (v % w - s % w) + ((s / w - v / w) + (v / w - s / w))
theorem grid_num : ((List.range 5).all fun w => (List.range 7).all fun h => !(decide (0 < w) && decide (0 < h)) || (decide (degSum (relG (gridN w) (w * h)) (w * h) = 2 * (w * (h - 1) + h * (w - 1))) && decide (mm (gridD w) (w * h) = ((w + h - 2 : Nat) : Int)))) = true := by decide +kernel
theorem grid_c {w u v : Nat} : relC (gridN w) u v = true ↔ (u ≠ v ∧ ((max u v = min u v + 1 ∧ u / w = v / w) ∨ max u v = min u v + w)) := by
  unfold relC gridN
  simp only [Bool.and_eq_true, Bool.or_eq_true, bne_iff_ne, beq_iff_eq, ne_eq]
  rcases Nat.le_total u v with e | e
  · rw [Nat.max_eq_left e, Nat.min_eq_right e, Nat.max_eq_right e, Nat.min_eq_left e]
    omega
  · rw [Nat.max_eq_right e, Nat.min_eq_left e, Nat.max_eq_left e, Nat.min_eq_right e]
    omega
set_option maxHeartbeats 4000000 in
theorem grid_step {w s u v : Nat} (hw : w = 1 ∨ w = 2 ∨ w = 3 ∨ w = 4) (hc : (max u v = min u v + 1 ∧ u / w = v / w) ∨ max u v = min u v + w) : gridD w s v ≤ gridD w s u + 1 := by
  unfold gridD
  rcases hw with rfl | rfl | rfl | rfl
  · omega
  · omega
  · omega
  · omega
set_option maxHeartbeats 4000000 in
theorem grid_near {w h s v : Nat} (hw : w = 1 ∨ w = 2 ∨ w = 3 ∨ w = 4) (hs : s < w * h) (hv : v < w * h) (hd : 0 < gridD w s v) : ∃ u, u < w * h ∧ (u ≠ v ∧ ((max u v = min u v + 1 ∧ u / w = v / w) ∨ max u v = min u v + w)) ∧ gridD w s u + 1 = gridD w s v := by
  unfold gridD at hd
  rcases Nat.lt_trichotomy (s % w) (v % w) with e | e | e
  · refine ⟨v - 1, ?_, ?_, ?_⟩
    · omega
    · rcases hw with rfl | rfl | rfl | rfl <;> omega
    · unfold gridD; rcases hw with rfl | rfl | rfl | rfl <;> omega
  · rcases Nat.lt_trichotomy (s / w) (v / w) with e2 | e2 | e2
    · refine ⟨v - w, ?_, ?_, ?_⟩
      · omega
      · rcases hw with rfl | rfl | rfl | rfl <;> omega
      · unfold gridD; rcases hw with rfl | rfl | rfl | rfl <;> omega
    · omega
    · refine ⟨v + w, ?_, ?_, ?_⟩
      · rcases hw with rfl | rfl | rfl | rfl <;> omega
      · rcases hw with rfl | rfl | rfl | rfl <;> omega
      · unfold gridD; rcases hw with rfl | rfl | rfl | rfl <;> omega
  · refine ⟨v + 1, ?_, ?_, ?_⟩
    · rcases hw with rfl | rfl | rfl | rfl <;> omega
    · rcases hw with rfl | rfl | rfl | rfl <;> omega
    · unfold gridD; rcases hw with rfl | rfl | rfl | rfl <;> omega
theorem grid_shape {w h : Nat} (h1 : 1 ≤ w) (h2 : w ≤ 4) (h3 : 1 ≤ h) (h4 : h ≤ 6) : Shape (relG (gridN w) (w * h)) (w * h) (w * (h - 1) + h * (w - 1)) (w + h - 2) := by
  have hnum := List.all_eq_true.1 (List.all_eq_true.1 grid_num w (by simp; omega)) h (by simp; omega)
  have hw0 : 0 < w := by omega
  have hh0 : 0 < h := by omega
  have hw : w = 1 ∨ w = 2 ∨ w = 3 ∨ w = 4 := by omega
  simp only [hw0, hh0, decide_true, Bool.and_self, Bool.not_true, Bool.false_or, Bool.and_eq_true, decide_eq_true_eq] at hnum
  have hp : 1 ≤ w * h := Nat.mul_le_mul h1 h3
  have hq : w * h ≤ 4 * 6 := Nat.mul_le_mul h2 h4
  refine rel_shape (f := gridD w) hp hq (fun s _ => by unfold gridD; omega) ?_ ?_ ?_ hnum.1 hnum.2
  · intro s v hs hv he
    unfold gridD at he
    have e1 := Nat.div_add_mod s w
    have e2 := Nat.div_add_mod v w
    rw [show s / w = v / w by omega, show s % w = v % w by omega] at e1
    omega
  · intro s u v _ _ _ hc
    exact grid_step hw (grid_c.1 hc).2
  · intro s v hs hv hd
    obtain ⟨u, hu, hc, e⟩ := grid_near hw hs hv hd
    exact ⟨u, hu, grid_c.2 hc, e⟩
end Go.Proofs.Ytkffpipcjdhbaaa
