/- A graph of parents is a tree. No program in sight. -/
import Derived.Test.YtkffpipcjdhbaaaFamShape
import Derived.Test.YtkffpipcjdhbaaaFam5
namespace Go.Proofs.Ytkffpipcjdhbaaa
open Go.RowKit

theorem relC_ok (near : Nat → Nat → Bool) (n : Nat) : RelOk (relC near) n := by
  refine ⟨fun k u _ _ h => ?_, fun k _ => by simp [relC]⟩
  unfold relC at h ⊢
  rw [Bool.and_eq_true] at h ⊢
  rw [Nat.min_comm k u, Nat.max_comm k u]
  exact ⟨by have := h.1; simp at this ⊢; omega, h.2⟩
theorem relG_eq (near : Nat → Nat → Bool) (n : Nat) : relG near n = relR (relC near) n := rfl
theorem exists_depth (p : Nat → Nat) : ∀ n, (∀ v, 1 ≤ v → v < n → p v < v) → ∃ f : Nat → Nat, f 0 = 0 ∧ ∀ v, 1 ≤ v → v < n → f v = f (p v) + 1
  | 0, _ => ⟨fun _ => 0, rfl, fun v _ h => absurd h (by omega)⟩
  | n + 1, h => by
    obtain ⟨f, h0, hf⟩ := exists_depth p n (fun v h1 h2 => h v h1 (by omega))
    refine ⟨fun v => if v = n ∧ 1 ≤ n then f (p n) + 1 else f v, ?_, fun v h1 h2 => ?_⟩
    · show (if 0 = n ∧ 1 ≤ n then f (p n) + 1 else f 0) = 0
      rw [if_neg (by omega)]; exact h0
    · have hp := h v h1 h2
      show (if v = n ∧ 1 ≤ n then f (p n) + 1 else f v) = (if p v = n ∧ 1 ≤ n then f (p n) + 1 else f (p v)) + 1
      rw [if_neg (c := p v = n ∧ 1 ≤ n) (by omega)]
      by_cases e : v = n
      · rw [if_pos ⟨e, by omega⟩, e]
      · rw [if_neg (by omega), hf v h1 (by omega)]

theorem par_tree {zs : List Int} {n : Nat} (h : parPok zs) (hn : zs.length = n) (h24 : n ≤ 24) :
    ValidG (relG (parN zs) n) ∧ treeB (relG (parN zs) n) = true ∧ ∀ v, 1 ≤ v → v < n → distF (relG (parN zs) n) 0 v = distF (relG (parN zs) n) 0 (idA zs v).toNat + 1 := by
  obtain ⟨hpos, h0, hv⟩ := h
  rw [hn] at hpos hv
  rw [relG_eq]
  have hok := relC_ok (parN zs) n
  have hV := rel_valid (by omega) h24 hok
  have hlen := rel_len (relC (parN zs)) n
  obtain ⟨f, f0, hf⟩ := exists_depth (fun v => (idA zs v).toNat) n (fun v h1 h2 => by have := hv v h1 h2; show (idA zs v).toNat < v; omega)
  have hc : ∀ u v, u < v → v < n → (relC (parN zs) u v = true ↔ idA zs v = u) := fun u v h1 h2 => by
    unfold relC parN
    rw [Nat.max_eq_left (by omega), Nat.min_eq_right (by omega)]
    simp
    omega
  have hd : ∀ v, v < n → distF (relR (relC (parN zs)) n) 0 v = f v := fun v hvn => by
    refine rel_dist (by omega) h24 hok (by omega) f0 (fun v h1 h2 => ?_) (fun u v hu hv' hcc => ?_) (fun v h1 h2 => ?_) hvn
    · rcases Nat.eq_zero_or_pos v with e | e
      · exact e
      · have := hf v e h1; omega
    · rcases Nat.lt_trichotomy u v with e | e | e
      · have h3 := (hc u v e hv').1 hcc
        have h4 := hf v (by omega) hv'
        rw [show (idA zs v).toNat = u by omega] at h4
        omega
      · subst e; omega
      · have h3 := (hc v u e hu).1 (hok.symm u v hu hv' hcc)
        have h4 := hf u (by omega) hu
        rw [show (idA zs u).toNat = v by omega] at h4
        omega
    · rcases Nat.eq_zero_or_pos v with e | e
      · subst e; omega
      · have h3 := hv v e h1
        have h4 := hf v e h1
        exact ⟨(idA zs v).toNat, by omega, (hc _ v (by omega) h1).2 (by omega), by omega⟩
  have hconn := rel_conn (by omega) h24 hok hd
  refine ⟨hV, ?_, fun v h1 h2 => ?_⟩
  · have hge := tree_le hconn
    have hle := nodup_sub (l1 := allLinks (relR (relC (parN zs)) n) (relR (relC (parN zs)) n).ps.length) (l2 := (List.range (n - 1)).map fun i => lnk (i + 1) (idA zs (i + 1)).toNat) (allLinks_nodup _ _) (fun x hx => by
      obtain ⟨h1, h2, h3⟩ := (links_adj hV).1 hx
      rw [hlen] at h2
      obtain ⟨h4, h5⟩ := (rel_adj h2).1 h3
      have h6 := (hc x.1 x.2 h1 h4).1 h5
      refine List.mem_map.2 ⟨x.2 - 1, by simp; omega, ?_⟩
      rw [show x.2 - 1 + 1 = x.2 by omega, h6, Int.toNat_natCast]
      unfold lnk
      rw [Nat.min_eq_right (by omega), Nat.max_eq_left (by omega)])
    rw [List.length_map, List.length_range] at hle
    rw [hlen] at hge hle
    unfold treeB linksF nodesF
    rw [hconn, if_pos (validB_mk hV), if_pos (validB_mk hV), hlen]
    simp
    omega
  · have h3 := hv v h1 h2
    rw [hd v h2, hd _ (by omega)]
    have := hf v h1 h2
    omega
end Go.Proofs.Ytkffpipcjdhbaaa
