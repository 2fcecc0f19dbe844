/- What Rename of the program answers. -/
import Derived.Test.YtckofngclgkajaaTermP3
import Derived.Test.YtckofngclgkajaaTermApp
import Derived.Laws.CopyOwn
namespace Go.Proofs.Ytckofngclgkajaa
open Go.RowKit

/-- whether a number names a variable -/
def inSix (z : Int) : Bool := decide (0 ≤ z ∧ z < 6)
theorem allI_upto {zs : List Int} (h : ∀ j, j < zs.length → inSix (idA zs j) = true) : zs.all inSix = true := by
  rw [List.all_eq_true]
  intro z hz
  obtain ⟨i, hi, rfl⟩ := List.mem_iff_getElem.1 hz
  have := h i hi
  simpa [idA, hi] using this
theorem not_allI {zs : List Int} {k : Nat} (hk : k < zs.length) (h : inSix (idA zs k) = false) : zs.all inSix = false := by
  rw [Bool.eq_false_iff]
  intro h2
  rw [List.all_eq_true] at h2
  have := h2 zs[k] (List.getElem_mem hk)
  simp [idA, hk] at h
  rw [h] at this
  cases this
/-- copy of a list of terms over a row of one's own of its length -/
theorem run_copyT {P : Program} (w : World) (dT sT ty elem : TypeId) (g n cap : Nat) (ad : Addr) (sc : Nat) (cur : Array Value) (t : TypeId) (xs : List (Int × Int)) (hu : P.underlying dT = some (.slice elem)) (hs : (P.info? elem).map (·.size) = some 2)
    (hg : w.heap[g]? = some (.cells cur t (0, 0))) (hn : xs.length = n) (hsrc : ∀ j v, (linkVs xs)[j]? = some v → w.cell? (ad.add j) = some v) (hfit : n * 2 ≤ cur.size) :
    (Builtin.copy_ #[dT, sT] ty #[.slice (some ⟨g, 0, none⟩) n cap, .slice (some ad) n sc]).run P w = .ok (goInt n) (w.setRow g (linkVs xs ++ cur.toList.drop (n * 2)).toArray) := by
  subst hn
  have hl := run_loadCells_list (P := P) w ad (linkVs xs) hsrc
  rw [linkVs_len] at hl
  have hst := run_storeCells_at P g 0 t (linkVs xs) 0 cur w hg (by rw [linkVs_len]; omega) linkVs_one
  rw [linkVs_len] at hst
  cases hq : P.info? elem with
  | none => simp [hq] at hs
  | some i =>
    have hi : i.size = 2 := by simpa [hq] using hs
    simp only [Nat.zero_add, Nat.add_zero, List.take_zero, List.nil_append] at hst
    simp [Builtin.copy_, run_underlying hu, Builtin.lenOf, Builtin.firstCells, sizeOf, typeInfo, hq, hi, hl, hst]
theorem own_setRow {w : World} {B g n : Nat} {vs : List Value} {xs : List (Int × Int)} (h : w.ownsRow B 38 2 (.slice (some ⟨g, 0, none⟩) n n) n vs) (hn : xs.length = n) : ∃ cur, w.heap[g]? = some (.cells cur 38 (0, 0)) ∧ n * 2 ≤ cur.size ∧ B ≤ g ∧ OwnT B (w.setRow g (linkVs xs ++ cur.toList.drop (n * 2)).toArray) (.slice (some ⟨g, 0, none⟩) n n) xs := by
  rcases h.2 with ⟨e, _⟩ | ⟨g', cap, cur, e, hg0, hg, h1, h2, h3, _⟩
  · cases e
  · injection e with e1 e2 e3
    injection e1 with e1
    injection e1 with e1
    subst e1 e3
    refine ⟨cur, hg, by omega, hg0, ?_⟩
    subst hn
    refine ⟨linkVs_len xs, .inr ⟨g, xs.length, _, rfl, hg0, setRow_heap w g _ _ _ _ hg, Nat.le_refl _, h2, ?_, ?_⟩⟩
    · simp [linkVs_len, h3]
    · rw [← linkVs_len xs]
      simp
section
variable {ops : Array Oper} {o : Oper} {a : Act} {w W : World} {Q : Exit → Act → World → Prop} {rest : List Oper}
theorem wpList_copyOverT (hgd : o.guard = none) (d s : Operand) (ho : o.op = .call { callee := .builtin .copy, args := #[d, s], argTypes := #[22, 22] }) (B g n sc : Nat) (hd : a.eval d = .slice (some ⟨g, 0, none⟩) n n)
    (la : Option Addr) (hs' : a.eval s = .slice la n sc) (vs : List Value) (h : w.ownsRow B 38 2 (.slice (some ⟨g, 0, none⟩) n n) n vs) (xs : List (Int × Int)) (hn : n = xs.length) (h0 : 0 < n) (hX : LinksAt w la xs)
    (hK : ∀ w', OwnT B w' (.slice (some ⟨g, 0, none⟩) n n) xs → Below B w w' → wpList Try.prog ops Q rest (a.put o.dst (goInt n)) w') :
    wpList Try.prog ops Q (o :: rest) a w := by
  obtain ⟨cur, hg, hfit, hBg, hown⟩ := own_setRow h hn.symm
  obtain ⟨b, off, rfl, _⟩ := hX.row (by omega)
  obtain ⟨i, hi, _, hz1, _⟩ := info_parts infoTerm
  have hrun := run_copyT (P := Try.prog) w 22 22 o.type 38 g n n ⟨b, off, none⟩ sc cur 38 xs Try.underlying22 (by rw [hi]; simp [hz1]) hg hn.symm (links_cells hX) hfit
  refine wpList_plain hgd fun K hK' => ?_
  unfold Oper.wp
  simp [execOp, ho, resolve, invoke, builtin, hd, hs', hrun, Result.andThen]
  exact hK' _ _ (hK _ hown (below_setRow (Below.refl _ _) hBg _))
end
theorem own_bel {w w' : World} {B : Nat} {t : TypeId} {size : Nat} {v : Value} {n : Nat} {vs : List Value} (h : w.ownsRow B t size v n vs) (hb : Below w.heap.size w w') : w'.ownsRow B t size v n vs :=
  h.kept (row := none) ⟨hb.os, hb.tape, hb.output, hb.size, fun k hk _ => hb.block k hk⟩ (by cases v.ownBlock <;> simp)
theorem renT_skip {m : List Int} {op x : Int} (h : varB op = false) : renT m (op, x) = (op, x) := by
  unfold renT
  rw [if_neg (by unfold varB at h; simpa using h)]
theorem renT_var {m : List Int} {op x : Int} (h : varB op = true) : renT m (op, x) = (op, idA m x.toNat) := by
  unfold renT
  rw [if_pos (by unfold varB at h; simpa using h)]
theorem inSix_all (zs : List Int) : (zs.all fun z => decide (0 ≤ z ∧ z < 6)) = zs.all inSix := rfl

end Go.Proofs.Ytckofngclgkajaa
