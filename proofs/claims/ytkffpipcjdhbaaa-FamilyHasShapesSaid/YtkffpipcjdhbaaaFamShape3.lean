/- Rings. No program in sight. -/
import Derived.Test.YtkffpipcjdhbaaaFamShape2
namespace Go.Proofs.Ytkffpipcjdhbaaa
open Go.RowKit

def adjB (G : Gr) (u v : Nat) : Bool := (rowA G.ps u).any fun p => p.1 == (v : Int)
theorem adjB_iff {G : Gr} {u v : Nat} : adjB G u v = true ↔ Adj G u v := by
  unfold adjB Adj
  rw [List.any_eq_true]
  constructor
  · rintro ⟨x, hx, e⟩
    obtain ⟨i, hi, rfl⟩ := List.mem_iff_getElem.1 hx
    exact ⟨i, hi, by unfold toA; simp [List.getD, hi]; simpa using e⟩
  · rintro ⟨i, hi, e⟩
    exact ⟨(rowA G.ps u)[i], List.getElem_mem hi, by unfold toA at e; simp [List.getD, hi] at e; simpa using e⟩
def linkC (xs : List (Int × Int)) (v n : Nat) (i : Nat) : Bool := decide (0 ≤ toA xs i) && decide (toA xs i ≤ (n : Int) - 1) && decide (toA xs i ≠ v) && decide (1 ≤ wtA xs i) && decide (wtA xs i ≤ 15) && (List.range i).all fun k => decide (toA xs k ≠ toA xs i)
theorem linkC_ok {xs : List (Int × Int)} {v n i : Nat} (h : linkC xs v n i = true) : LinkOk xs v n i := by
  unfold linkC at h
  simp only [Bool.and_eq_true, decide_eq_true_eq, List.all_eq_true, List.mem_range] at h
  obtain ⟨⟨⟨⟨⟨h1, h2⟩, h3⟩, h4⟩, h5⟩, h6⟩ := h
  exact ⟨⟨h1, h2⟩, h3, ⟨h4, h5⟩, h6⟩
def mateC (G : Gr) (v i : Nat) : Bool := decide (0 ≤ portF (rowA G.ps (toA (rowA G.ps v) i).toNat) v) && decide (wtA (rowA G.ps (toA (rowA G.ps v) i).toNat) (portF (rowA G.ps (toA (rowA G.ps v) i).toNat) v).toNat = wtA (rowA G.ps v) i)
theorem mateC_ok {G : Gr} {v i : Nat} (h : mateC G v i = true) : MateOk G v i := by
  unfold mateC at h
  rw [Bool.and_eq_true, decide_eq_true_eq, decide_eq_true_eq] at h
  exact h
def linksC (G : Gr) (n : Nat) : Bool := (List.range n).all fun v => (List.range (rowA G.ps v).length).all fun i => linkC (rowA G.ps v) v n i && mateC G v i
theorem fam_valid {n : Nat} {R : Nat → List (Int × Int)} (h1 : 1 ≤ n) (h2 : n ≤ 24) (h : linksC (famG n R) n = true) : ValidG (famG n R) := by
  have hl : (famG n R).ps.length = n := famG_len n _
  have hk : ∀ v, v < n → ∀ i, i < (rowA (famG n R).ps v).length → linkC (rowA (famG n R).ps v) v n i = true ∧ mateC (famG n R) v i = true := fun v hv i hi => by
    have := List.all_eq_true.1 (List.all_eq_true.1 h v (by simpa using hv)) i (by simpa using hi)
    simpa using this
  refine ⟨by omega, by omega, ?_, ?_, ?_, ?_⟩
  · rw [hl]; simp [famG, upTo_len]
  · intro v hv
    rw [hl] at hv
    show IdOk (upTo n) v
    unfold IdOk
    rw [upTo_at hv]
    refine ⟨by omega, fun k hk => ?_⟩
    rw [upTo_at (by omega)]
    omega
  · intro v hv i hi
    rw [hl] at hv ⊢
    exact linkC_ok (hk v hv i hi).1
  · intro v hv i hi
    rw [hl] at hv
    exact mateC_ok (hk v hv i hi).2

def ringG (n : Nat) : Gr := famG n (ringR n)
def ringD (n s v : Nat) : Nat := min ((s - v) + (v - s)) (n - ((s - v) + (v - s)))
theorem ring_num : ((List.range 25).all fun n => !(decide (3 ≤ n)) || (linksC (ringG n) n && decide (degSum (ringG n) n = 2 * n) && decide (mm (ringD n) n = ((n / 2 : Nat) : Int)) && (List.range n).all fun u => (List.range n).all fun v => adjB (ringG n) u v == relC (ringN n) u v)) = true := by decide +kernel
theorem ring_c {n u v : Nat} : relC (ringN n) u v = true ↔ (u ≠ v ∧ (max u v = min u v + 1 ∨ max u v = min u v + n - 1)) := by
  unfold relC ringN
  simp only [Bool.and_eq_true, Bool.or_eq_true, bne_iff_ne, beq_iff_eq, ne_eq]
  omega
theorem ring_shape {n : Nat} (h1 : 3 ≤ n) (h2 : n ≤ 24) : Shape (ringG n) n n (n / 2) := by
  have hnum := List.all_eq_true.1 ring_num n (by simp; omega)
  simp only [h1, decide_true, Bool.not_true, Bool.false_or, Bool.and_eq_true, decide_eq_true_eq, List.all_eq_true, List.mem_range, beq_iff_eq] at hnum
  obtain ⟨⟨⟨hv, hl⟩, hm⟩, ha⟩ := hnum
  have hV : ValidG (ringG n) := fam_valid (by omega) h2 hv
  have hlen : (ringG n).ps.length = n := famG_len n _
  have hadj : ∀ u v, u < n → v < n → (Adj (ringG n) u v ↔ (u ≠ v ∧ (max u v = min u v + 1 ∨ max u v = min u v + n - 1))) := fun u v hu hv => by
    rw [← adjB_iff, ha u hu v hv, ring_c]
  refine shape_mk (f := ringD n) hlen (by omega) hV (fun s v hs hv => ?_) hl hm
  refine dist_level (f := ringD n s) hlen hV hs ?_ ?_ ?_ ?_ hv
  · unfold ringD; omega
  · intro v hv h
    unfold ringD at h
    omega
  · intro u v hu hv h
    rw [hadj u v hu hv] at h
    unfold ringD
    omega
  · intro v hv h
    unfold ringD at h
    by_cases e : s < v
    · by_cases e2 : v - s ≤ n - (v - s)
      · exact ⟨v - 1, by omega, (hadj _ _ (by omega) hv).2 (by omega), by unfold ringD; omega⟩
      · by_cases e3 : v + 1 = n
        · exact ⟨0, by omega, (hadj _ _ (by omega) hv).2 (by omega), by unfold ringD; omega⟩
        · exact ⟨v + 1, by omega, (hadj _ _ (by omega) hv).2 (by omega), by unfold ringD; omega⟩
    · by_cases e2 : s - v ≤ n - (s - v)
      · exact ⟨v + 1, by omega, (hadj _ _ (by omega) hv).2 (by omega), by unfold ringD; omega⟩
      · by_cases e3 : v = 0
        · exact ⟨n - 1, by omega, (hadj _ _ (by omega) hv).2 (by omega), by unfold ringD; omega⟩
        · exact ⟨v - 1, by omega, (hadj _ _ (by omega) hv).2 (by omega), by unfold ringD; omega⟩
end Go.Proofs.Ytkffpipcjdhbaaa
