/- Plain graphs: what the words of layer 1 mean, with no program in sight. -/
import Derived.Test.YtfbbkiibhdgojaaBase
namespace Go.Proofs.Ytfbbkiibhdgojaa

def inB (v lo hi : Int) : Bool := decide (lo ≤ v ∧ v ≤ hi)
theorem inB_true {v lo hi : Int} (h : inB v lo hi = true) : lo ≤ v ∧ v ≤ hi := by simpa [inB] using h
theorem inB_false {v lo hi : Int} (h : inB v lo hi = false) : ¬ (lo ≤ v ∧ v ≤ hi) := by
  unfold inB at h
  exact of_decide_eq_false h
theorem inB_mk {v lo hi : Int} (h : lo ≤ v ∧ v ≤ hi) : inB v lo hi = true := by simpa [inB] using h
theorem inB_mkF {v lo hi : Int} (h : ¬ (lo ≤ v ∧ v ≤ hi)) : inB v lo hi = false := by
  unfold inB
  exact decide_eq_false h

/-- the place of the first link to u, or -1 -/
def portF (xs : List (Int × Int)) (u : Int) : Int :=
  match xs.findIdx? (fun x => x.1 == u) with
  | some i => i
  | none => -1

theorem portF_found {xs : List (Int × Int)} {u : Int} {k : Nat} (hk : k < xs.length) (h : toA xs k = u) (hn : ∀ j, j < k → toA xs j ≠ u) : portF xs u = k := by
  have : xs.findIdx? (fun x => x.1 == u) = some k := by
    rw [List.findIdx?_eq_some_iff_getElem]
    refine ⟨hk, ?_, fun j hj => ?_⟩
    · simpa [toA, List.getD, List.getElem?_eq_getElem hk] using h
    · have := hn j hj
      simpa [toA, List.getD, List.getElem?_eq_getElem (Nat.lt_trans hj hk)] using this
  simp [portF, this]

theorem portF_none {xs : List (Int × Int)} {u : Int} (hn : ∀ j, j < xs.length → toA xs j ≠ u) : portF xs u = -1 := by
  have : xs.findIdx? (fun x => x.1 == u) = none := by
    rw [List.findIdx?_eq_none_iff]
    intro x hx
    obtain ⟨j, hj, rfl⟩ := List.getElem_of_mem hx
    have := hn j hj
    simpa [toA, List.getD, List.getElem?_eq_getElem hj] using this
  simp [portF, this]

/-- found, or not: one of the two -/
theorem portF_cases (xs : List (Int × Int)) (u : Int) : (portF xs u = -1 ∧ ∀ j, j < xs.length → toA xs j ≠ u) ∨ ∃ k, k < xs.length ∧ portF xs u = k ∧ toA xs k = u ∧ ∀ j, j < k → toA xs j ≠ u := by
  by_cases h : ∃ k, k < xs.length ∧ toA xs k = u
  · right
    have hw : ∃ k, (k < xs.length ∧ toA xs k = u) ∧ ∀ j, j < k → ¬ (j < xs.length ∧ toA xs j = u) := by
      obtain ⟨k, hk⟩ := h
      induction k using Nat.strongRecOn with
      | ind k ih =>
        by_cases h' : ∃ j, j < k ∧ (j < xs.length ∧ toA xs j = u)
        · obtain ⟨j, hj, hj'⟩ := h'
          exact ih j hj hj'
        · exact ⟨k, hk, fun j hj hj' => h' ⟨j, hj, hj'⟩⟩
    obtain ⟨k, ⟨h1, h2⟩, h3⟩ := hw
    have h4 : ∀ j, j < k → toA xs j ≠ u := fun j hj he => h3 j hj ⟨by omega, he⟩
    exact ⟨k, h1, portF_found h1 h2 h4, h2, h4⟩
  · left
    have h4 : ∀ j, j < xs.length → toA xs j ≠ u := fun j hj he => h ⟨j, hj, he⟩
    exact ⟨portF_none h4, h4⟩

theorem portF_ge (xs : List (Int × Int)) (u : Int) : -1 ≤ portF xs u ∧ portF xs u < xs.length := by
  rcases portF_cases xs u with ⟨h, _⟩ | ⟨k, hk, h, _⟩ <;> rw [h] <;> omega

/-- what is asked of the i-th link of node v, in a graph of n nodes -/
def LinkOk (xs : List (Int × Int)) (v n : Int) (i : Nat) : Prop :=
  (0 ≤ toA xs i ∧ toA xs i ≤ n - 1) ∧ toA xs i ≠ v ∧ (1 ≤ wtA xs i ∧ wtA xs i ≤ 15) ∧ ∀ k, k < i → toA xs k ≠ toA xs i
def LinksOk (xs : List (Int × Int)) (v n : Int) : Prop := ∀ i, i < xs.length → LinkOk xs v n i
open Classical in
noncomputable def linksOkB (xs : List (Int × Int)) (v n : Int) : Bool := decide (LinksOk xs v n)
theorem linksOkB_mk {xs : List (Int × Int)} {v n : Int} (h : LinksOk xs v n) : linksOkB xs v n = true := by simpa [linksOkB] using h
theorem linksOkB_mkF {xs : List (Int × Int)} {v n : Int} (h : ¬ LinksOk xs v n) : linksOkB xs v n = false := by simpa [linksOkB] using h
theorem linksOkB_iff {xs : List (Int × Int)} {v n : Int} : linksOkB xs v n = true ↔ LinksOk xs v n := by simp [linksOkB]

/-- what is asked of the i-th identifier -/
def IdOk (zs : List Int) (i : Nat) : Prop := (0 ≤ idA zs i ∧ idA zs i ≤ 255) ∧ ∀ k, k < i → idA zs k ≠ idA zs i
/-- the i-th link of node v has another end with the same weight -/
def MateOk (G : Gr) (v i : Nat) : Prop :=
  0 ≤ portF (rowA G.ps (toA (rowA G.ps v) i).toNat) v ∧ wtA (rowA G.ps (toA (rowA G.ps v) i).toNat) (portF (rowA G.ps (toA (rowA G.ps v) i).toNat) v).toNat = wtA (rowA G.ps v) i

structure ValidG (G : Gr) : Prop where
  pos : 1 ≤ G.ps.length
  le : G.ps.length ≤ 24
  ids : G.ids.length = G.ps.length
  id : ∀ v, v < G.ps.length → IdOk G.ids v
  links : ∀ v : Nat, v < G.ps.length → LinksOk (rowA G.ps v) v G.ps.length
  mate : ∀ v, v < G.ps.length → ∀ i, i < (rowA G.ps v).length → MateOk G v i
open Classical in
noncomputable def validB (G : Gr) : Bool := decide (ValidG G)
theorem validB_mk {G : Gr} (h : ValidG G) : validB G = true := by simpa [validB] using h
theorem validB_mkF {G : Gr} (h : ¬ ValidG G) : validB G = false := by simpa [validB] using h
theorem validB_iff {G : Gr} : validB G = true ↔ ValidG G := by simp [validB]

/-- different numbers below n, none of them v: fewer than n -/
theorem nodup_len : ∀ (n : Nat) (l : List Nat), l.Nodup → (∀ x ∈ l, x < n) → l.length ≤ n
  | 0, l, _, h => by cases l with | nil => simp | cons a t => exact absurd (h a (by simp)) (by omega)
  | n + 1, l, hd, h => by
    have h1 := nodup_len n (l.erase n) (hd.erase n) (fun x hx => by
      have := h x (List.mem_of_mem_erase hx)
      have : x ≠ n := fun e => by subst e; exact (List.Nodup.not_mem_erase hd) hx
      omega)
    have h2 := List.length_erase (a := n) (l := l)
    split at h2 <;> omega

theorem LinksOk.len {xs : List (Int × Int)} {v n : Nat} (h : LinksOk xs v n) (hv : v < n) : xs.length < n := by
  have hd : (v :: (List.range xs.length).map fun i => (toA xs i).toNat).Nodup := by
    rw [List.nodup_cons]
    constructor
    · intro hm
      obtain ⟨i, hi, e⟩ := List.mem_map.1 hm
      have := h i (by simpa using hi)
      unfold LinkOk at this
      omega
    · refine List.Pairwise.map _ (S := fun a b => a ≠ b) (R := fun a b => a < b ∧ b < xs.length) (fun a b hab => ?_) ?_
      · have h1 := h a (by omega)
        have h2 := h b hab.2
        unfold LinkOk at h1 h2
        have h3 := h2.2.2.2 a hab.1
        omega
      · exact List.Pairwise.imp_of_mem (R := fun a b => a < b) (fun _ hb hab => ⟨hab, by simpa using hb⟩) List.pairwise_lt_range
  have := nodup_len n _ hd (by
    intro x hx
    rcases List.mem_cons.1 hx with rfl | hx
    · exact hv
    · obtain ⟨i, hi, rfl⟩ := List.mem_map.1 hx
      have := h i (by simpa using hi)
      unfold LinkOk at this
      omega)
  simp at this
  omega
end Go.Proofs.Ytfbbkiibhdgojaa
