/- Types of the guards and values of rules: mathematics, and what typeOf and kind answer for a list. -/
import Derived.Test.YtckofngclgkajaaTypK3
namespace Go.Proofs.Ytckofngclgkajaa
set_option maxRecDepth 100000
open Go.RowKit Go.Maps

open Classical in
/-- the type of a list of terms without a bound neighbour: that of its tree -/
noncomputable def kindL (xs : List (Int × Int)) (ks : List Int) : Int := if h : ∃ x : Ex, x.flat = xs ∧ x.wf then (Classical.choose h).kind ks false else 0
theorem kindL_eq {x : Ex} (hw : x.wf) (ks : List Int) : kindL x.flat ks = x.kind ks false := by
  have h : ∃ y : Ex, y.flat = x.flat ∧ y.wf := ⟨x, rfl, hw⟩
  unfold kindL
  rw [dif_pos h]
  have h1 := Classical.choose_spec h
  rw [flat_inj _ x h1.2 hw h1.1]
def TyOk (ss : List SetV) (ks : List Int) (i : Nat) : Prop := kindL (seA ss i) ks = idA ks (svA ss i).toNat
/-- a rule's expressions have their types -/
noncomputable def typedF (r : RuleV) (ks : List Int) : Bool := decide (kindL r.guard ks = 2) && (List.range r.sets.length).all fun i => decide (kindL (seA r.sets i) ks = idA ks (svA r.sets i).toNat)
theorem typed_iff {r : RuleV} {ks : List Int} : typedF r ks = true ↔ kindL r.guard ks = 2 ∧ ∀ i, i < r.sets.length → TyOk r.sets ks i := by
  unfold typedF TyOk
  simp only [Bool.and_eq_true, decide_eq_true_eq, List.all_eq_true, List.mem_range]
theorem formed_parts {r : RuleV} {n : Nat} (h : formedF r n = true) : 1 ≤ r.sets.length ∧ r.sets.length ≤ 6 ∧ validE r.guard n = true ∧ ∀ i, i < r.sets.length → SetOk r.sets n i := by
  unfold formedF at h
  simp only [Bool.and_eq_true] at h
  obtain ⟨h1, h2, h3⟩ := h
  unfold inF at h1
  simp at h1
  exact ⟨by omega, by omega, h2, sets_iff.1 h3⟩
theorem typeOfL_any (a : Option Addr) (c : Nat) (xs : List (Int × Int)) (ka : Option Addr) (kc : Nat) (ks : List Int) (w : World) (hX : LinksAt w a xs) (hK : IntsAt w ka ks) (hn : xs.length ≤ 1000) (hcap : xs.length ≤ c) (hv : validE xs ks.length = true) :
    Calls Try.prog 32 #[.slice a xs.length c, .slice ka ks.length kc, .bool false] w fun e w' => e = .returned (.int .i64 (kindL xs ks)) ∧ Below w.heap.size w w' := by
  obtain ⟨x, hx, hw, ha, _⟩ := valid_tree7 hv
  have h := typeOfP_any a c xs ka kc ks false w hX hK hn hcap x hx hw ha
  rw [← kindL_eq hw, hx] at h
  exact h
theorem kindL_any (a : Option Addr) (c : Nat) (xs : List (Int × Int)) (ka : Option Addr) (kc : Nat) (ks : List Int) (w : World) (hX : LinksAt w a xs) (hK : IntsAt w ka ks) (hn : xs.length ≤ 1000) (hv : validE xs ks.length = true) :
    Calls Try.prog 34 #[.slice a xs.length c, .int .i64 0, .slice ka ks.length kc, .bool false] w fun e w' => e = .returned (.int .i64 (kindL xs ks)) ∧ Below w.heap.size w w' := by
  obtain ⟨x, hx, hw, ha, _⟩ := valid_tree7 hv
  obtain ⟨r, hr⟩ := flat_top x
  obtain ⟨g, o, rfl, _⟩ := hX.row (by rw [← hx, hr]; simp)
  have hh := kindR_any (Src7.mk w g o c xs ka kc ks) ⟨hX, hK, hn⟩ x 0 false ⟨[], by show xs.drop 0 = x.flat ++ []; rw [hx]; simp⟩ hw ha w (Below.refl _ _)
  rw [← kindL_eq hw, hx] at hh
  exact hh
/-- the sets of a rule in memory, with the capacities -/
theorem row_sets7 {w : World} {a : Option Addr} {ss : List SetV} (h : RowAt 2 SetV.cells w a ss) (hs : ∀ s ∈ ss, s.At w) (h0 : 0 < ss.length) :
    ∃ b o, a = some ⟨b, o, none⟩ ∧ ∀ w', Below w.heap.size w w' → ∀ i, i < ss.length → w'.cell? ⟨b, o + i * 2, none⟩ = some (.int .i64 (svA ss i)) ∧ ∃ x c, w'.cell? ⟨b, o + i * 2 + 1, none⟩ = some (.slice x (seA ss i).length c) ∧ LinksAt w' x (seA ss i) ∧ (seA ss i).length ≤ c := by
  obtain ⟨b, o, e, hlt, hc⟩ := h.row h0
  refine ⟨b, o, e, fun w' hb i hi => ?_⟩
  have e1 : svA ss i = ss[i].var := by unfold svA; rw [List.getD_eq_getElem?_getD, List.getElem?_map, List.getElem?_eq_getElem hi]; rfl
  have e2 : seA ss i = ss[i].val := by unfold seA; rw [List.getD_eq_getElem?_getD, List.getElem?_map, List.getElem?_eq_getElem hi]; rfl
  rw [e1, e2]
  refine ⟨?_, ss[i].va, ss[i].vc, ?_, (hs _ (List.getElem_mem hi)).links.below hb, (hs _ (List.getElem_mem hi)).cap⟩
  · rw [hb.cell (p := ⟨b, o + i * 2, none⟩) hlt]
    have := hc i hi 0 (by decide)
    rw [Nat.add_zero] at this
    rw [this]
    rfl
  · rw [hb.cell (p := ⟨b, o + i * 2 + 1, none⟩) hlt, hc i hi 1 (by decide)]
    rfl
theorem seA_eq {ss : List SetV} {i : Nat} (hi : i < ss.length) : seA ss i = ss[i].val := by unfold seA; rw [List.getD_eq_getElem?_getD, List.getElem?_map, List.getElem?_eq_getElem hi]; rfl
theorem svA_eq {ss : List SetV} {i : Nat} (hi : i < ss.length) : svA ss i = ss[i].var := by unfold svA; rw [List.getD_eq_getElem?_getD, List.getElem?_map, List.getElem?_eq_getElem hi]; rfl
theorem set_ix {ss : List SetV} {n i : Nat} (h : SetOk ss n i) : ∃ d : Nat, svA ss i = (d : Int) ∧ d < n := by
  have h1 := h.1
  unfold inF at h1
  simp at h1
  exact ⟨(svA ss i).toNat, by omega, by omega⟩
/-- a row of one's own whose first i cells hold the first i numbers -/
def KRow (w : World) (g n : Nat) (ks : List Int) (i : Nat) : Prop := ∀ j, j < n → (∃ v, w.cell? ⟨g, j, none⟩ = some v ∧ (j < i → v = .int .i64 (idA ks j))) ∧ w.frozen? ⟨g, j, none⟩ = false
theorem KRow.far {w w' : World} {g n i : Nat} {ks : List Int} (h : KRow w g n ks i) (hb : Below w.heap.size w w') (hg : g < w.heap.size) : KRow w' g n ks i := fun j hj => by
  obtain ⟨⟨v, hc, hv⟩, hf⟩ := h j hj
  exact ⟨⟨v, (hb.cell (p := ⟨g, j, none⟩) hg).trans hc, hv⟩, (hb.frozen (p := ⟨g, j, none⟩) hg).trans hf⟩
theorem KRow.put {w : World} {g n i : Nat} {ks : List Int} (h : KRow w g n ks i) (hi : i < n) : KRow (w.setCell ⟨g, i, none⟩ (.int .i64 (idA ks i))) g n ks (i + 1) := fun j hj => by
  obtain ⟨⟨v, hc, hv⟩, hf⟩ := h j hj
  refine ⟨?_, by rw [World.frozen?_setCell]; exact hf⟩
  by_cases e : j = i
  · subst e
    exact ⟨_, set_same hc, fun _ => rfl⟩
  · exact ⟨v, (set_other (by intro e2; injection e2 with _ e2; exact e e2.symm)).trans hc, fun h2 => hv (by omega)⟩
theorem KRow.ints {w : World} {g n : Nat} {ks : List Int} (h : KRow w g n ks n) (hn : ks.length = n) (hl : n ≤ 1000) (hg : g < w.heap.size) (hf : ∀ k ∈ ks, I64 k) : IntsAt w (some ⟨g, 0, none⟩) ks := by
  refine ⟨by unfold maxLen; omega, fun _ => ⟨g, 0, rfl, hg, fun i hi => ?_⟩, hf⟩
  obtain ⟨⟨v, hc, hv⟩, _⟩ := h i (by omega)
  rw [Nat.zero_add, hc, hv (by omega)]
theorem KRow.made {w : World} {B g n c : Nat} {vs : List Value} {ks : List Int} (h : w.ownsRow B 3 1 (.slice (some ⟨g, 0, none⟩) n c) n vs) : KRow w g n ks 0 := fun j hj => by
  have h1 := World.ownsRow.cellAt h j (by omega)
  have h2 := h.1
  rw [List.getElem?_eq_getElem (by omega)] at h1
  exact ⟨⟨_, h1, fun h => by omega⟩, World.ownsRow.frozenAt h j⟩
theorem kinds_at {ss : List VarV} {i : Nat} (h : i < ss.length) : idA (ss.map VarV.kind) i = (vA ss i).kind := by
  rw [vA_eq h]
  unfold idA
  rw [List.getD_eq_getElem?_getD, List.getElem?_map, List.getElem?_eq_getElem h]
  rfl
end Go.Proofs.Ytckofngclgkajaa
