/- What Connect of the specification of layer 3 answers, whatever is asked. -/
import Derived.Test.YtfbbkiibhdgojaaRefF9
namespace Go.Proofs.Ytfbbkiibhdgojaa
open Go.RowKit

end Go.Proofs.Ytfbbkiibhdgojaa
namespace Go.Proofs.Ytfbbkiibhdgojaa
open Go.RowKit

/-- the rows when the link has been added at A, and at both -/
def connH (G : Gr) (A B : Nat) (wt : Int) (v : Nat) : List (Int × Int) := if v = A then rowA G.ps A ++ [((B : Int), wt)] else rowA G.ps v
def connR (G : Gr) (A B : Nat) (wt : Int) (v : Nat) : List (Int × Int) := if v = B then rowA G.ps B ++ [((A : Int), wt)] else connH G A B wt v
def connG (G : Gr) (A B : Nat) (wt : Int) : Gr := ⟨G.ids, (List.range G.ps.length).map (connR G A B wt)⟩
theorem rowsR_of {us : List (Value × List (Int × Int))} {G : Gr} (h : us.map Prod.snd = G.ps) : RowsR G.ps.length (fun v => rowA G.ps v) us :=
  ⟨by rw [← h]; simp, fun v hv => by rw [h]; simp [rowA, List.getD, List.getElem?_eq_getElem hv]⟩
theorem RowsR.all {n : Nat} {R : Nat → List (Int × Int)} {us : List (Value × List (Int × Int))} (h : RowsR n R us) : us.map Prod.snd = (List.range n).map R := (h.congr (R' := upR R n) (fun v hv => by simp [upR, hv])).whole
theorem conn_fit {G : Gr} {A B : Nat} {wt : Int} (h : FitG G) (hA : A ≤ 1000) (hB : B ≤ 1000) (hA2 : A < G.ps.length) (hB2 : B < G.ps.length) (hw : I64 wt) : FitG (connG G A B wt) := by
  have hrow : ∀ v, v < G.ps.length → ∀ x ∈ rowA G.ps v, I64 x.1 ∧ I64 x.2 := fun v hv x hx => by
    refine h.2 (rowA G.ps v) ?_ x hx
    simp [rowA, List.getD, List.getElem?_eq_getElem hv]
  refine ⟨h.1, fun p hp x hx => ?_⟩
  obtain ⟨v, hv, rfl⟩ := List.mem_map.1 hp
  have hv : v < G.ps.length := by simpa using hv
  unfold connR at hx
  by_cases e : v = B
  · rw [if_pos e] at hx
    rcases List.mem_append.1 hx with hx | hx
    · exact hrow B hB2 x hx
    · obtain rfl : x = _ := by simpa using hx
      exact ⟨⟨by show _ ≤ (A : Int); omega, by show (A : Int) ≤ _; omega⟩, hw⟩
  · rw [if_neg e] at hx
    unfold connH at hx
    by_cases e2 : v = A
    · rw [if_pos e2] at hx
      rcases List.mem_append.1 hx with hx | hx
      · exact hrow A hA2 x hx
      · obtain rfl : x = _ := by simpa using hx
        exact ⟨⟨by show _ ≤ (B : Int); omega, by show (B : Int) ≤ _; omega⟩, hw⟩
    · rw [if_neg e2] at hx
      exact hrow v hv x hx
end Go.Proofs.Ytfbbkiibhdgojaa
namespace Go.Proofs.Ytfbbkiibhdgojaa
open Go.RowKit

noncomputable def connO (G : Gr) (a b wt : Int) : Int ⊕ Gr :=
  if validB G = true then (if nodesB G.ps.length a b = true ∧ portF (rowA G.ps a.toNat) b < 0 ∧ inB wt 1 15 = true then .inr (connG G a.toNat b.toNat wt) else .inl 2) else .inl 1
theorem nodesB_of {n : Nat} {a b : Int} (h : nodesB n a b = true) : ∃ A B : Nat, a = A ∧ b = B ∧ A < n ∧ B < n ∧ A ≠ B := by
  unfold nodesB inB at h
  simp only [Bool.and_eq_true, decide_eq_true_eq, bne_iff_ne, ne_eq] at h
  exact ⟨a.toNat, b.toNat, by omega, by omega, by omega, by omega, by omega⟩
end Go.Proofs.Ytfbbkiibhdgojaa
