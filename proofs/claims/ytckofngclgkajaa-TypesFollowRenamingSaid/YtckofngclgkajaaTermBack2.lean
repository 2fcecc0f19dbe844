/- Rows of six numbers, a permutation and its inverse; renaming there and back. -/
import Derived.Test.YtckofngclgkajaaTermArg
import Derived.Test.YtckofngclgkajaaTermPerm
import Derived.Test.YtckofngclgkajaaTermGrow
namespace Go.Proofs.Ytckofngclgkajaa
open Go.RowKit

def rowL (f : Nat → Int) : List Int := (List.range 6).map f
theorem rowL_len (f : Nat → Int) : (rowL f).length = 6 := by simp [rowL]
theorem rowL_at (f : Nat → Int) {i : Nat} (hi : i < 6) : idA (rowL f) i = f i := by simp [rowL, idA, hi]
theorem rowL_all {f : Nat → Int} (h : ∀ i, i < 6 → 0 ≤ f i ∧ f i < 6) : (rowL f).all inSix = true := by
  rw [List.all_eq_true]
  intro z hz
  unfold rowL at hz
  obtain ⟨i, hi, rfl⟩ := List.mem_map.1 hz
  rw [List.mem_range] at hi
  unfold inSix
  exact decide_eq_true (h i hi)
theorem Row6.ints {w : World} {g : Nat} {f : Nat → Int} (h : Row6 w g f) (hg : g < w.heap.size) (hr : ∀ i, i < 6 → 0 ≤ f i ∧ f i < 6) : IntsAt w (some ⟨g, 0, none⟩) (rowL f) := by
  refine ⟨by rw [rowL_len]; unfold maxLen; omega, fun _ => ⟨g, 0, rfl, hg, fun i hi => ?_⟩, fun z hz => ?_⟩
  · rw [rowL_len] at hi
    rw [rowL_at f hi, Nat.zero_add]
    exact (h i hi).1
  · unfold rowL at hz
    obtain ⟨i, hi, rfl⟩ := List.mem_map.1 hz
    rw [List.mem_range] at hi
    have := hr i hi
    unfold I64
    omega
theorem Row6.bel {w w' : World} {g : Nat} {f : Nat → Int} (h : Row6 w g f) (hb : Below w.heap.size w w') (hg : g < w.heap.size) : Row6 w' g f := by
  intro i hi
  obtain ⟨h1, h2⟩ := h i hi
  have e := hb.block g hg
  exact ⟨(hb.cell (p := ⟨g, i, none⟩) hg).trans h1, by rw [← h2]; simp only [World.frozen?, e]⟩
theorem Row6.other {w : World} {g b : Nat} {f : Nat → Int} (h : Row6 w g f) (hb : b ≠ g) (k : Nat) (v : Value) : Row6 (w.setCell ⟨b, k, none⟩ v) g f := by
  intro i hi
  obtain ⟨h1, h2⟩ := h i hi
  exact ⟨(set_other (by intro e; injection e with e _; exact hb e)).trans h1, by rw [World.frozen?_setCell]; exact h2⟩
theorem Row6.put {w : World} {g k : Nat} {f : Nat → Int} (h : Row6 w g f) (z : Int) (hk : k < 6) : Row6 (w.setCell ⟨g, k, none⟩ (.int .i64 z)) g (fun v => if v = k then z else f v) := by
  intro i hi
  obtain ⟨h1, h2⟩ := h i hi
  refine ⟨?_, by rw [World.frozen?_setCell]; exact h2⟩
  dsimp only
  by_cases e : i = k
  · subst e
    rw [if_pos rfl]
    exact set_same h1
  · rw [if_neg e]
    exact (set_other (by intro e2; injection e2 with _ e2; exact e e2.symm)).trans h1
theorem Row6.zero {w : World} {B g : Nat} {n c : Nat} {vs : List Value} (h : w.ownsRow B 3 1 (.slice (some ⟨g, 0, none⟩) n c) n vs) (hn : n = 6) (hv : vs = [.int .i64 0, .int .i64 0, .int .i64 0, .int .i64 0, .int .i64 0, .int .i64 0]) : Row6 w g (fun _ => 0) := by
  subst hn hv
  intro i hi
  refine ⟨?_, World.ownsRow.frozenAt h i⟩
  rw [World.ownsRow.cellAt h i (by omega)]
  match i, hi with
  | 0, _ => rfl
  | 1, _ => rfl
  | 2, _ => rfl
  | 3, _ => rfl
  | 4, _ => rfl
  | 5, _ => rfl
/-- what is kept of the two rows -/
structure Perm2 (W X : World) (g g2 : Nat) (f h : Nat → Int) : Prop where
  bel : Below W.heap.size W X
  r1 : Row6 X g f
  r2 : Row6 X g2 h
  l1 : g < X.heap.size
  l2 : g2 < X.heap.size
theorem Perm2.step {W X Y : World} {g g2 : Nat} {f h : Nat → Int} (p : Perm2 W X g g2 f h) (hb : Below X.heap.size X Y) : Perm2 W Y g g2 f h :=
  ⟨p.bel.trans (hb.mono p.bel.size), p.r1.bel hb p.l1, p.r2.bel hb p.l2, Nat.lt_of_lt_of_le p.l1 hb.size, Nat.lt_of_lt_of_le p.l2 hb.size⟩

theorem ren_ok {xs : List (Int × Int)} {f : Nat → Int} (hv : validE xs 6 = true) (hr : ∀ i, i < 6 → 0 ≤ f i ∧ f i < 6) : renO xs (rowL f) = .inr (renL xs (rowL f)) := by
  unfold renO
  rw [rowL_len]
  have e : ((6 : Nat) : Int) = 6 := rfl
  rw [e, hv, if_pos rfl]
  exact if_pos (rowL_all hr)
theorem rowL_names {f : Nat → Int} (hr : ∀ i, i < 6 → 0 ≤ f i ∧ f i < 6) : Names (rowL f) 6 6 := fun i hi => by
  rw [rowL_at f hi]
  exact hr i hi
theorem ren_there {xs : List (Int × Int)} {f : Nat → Int} (hv : validE xs 6 = true) (hr : ∀ i, i < 6 → 0 ≤ f i ∧ f i < 6) : validE (renL xs (rowL f)) 6 = true := validE_ren (k := 6) (n := 6) hv (rowL_names hr)
theorem ren_back {xs : List (Int × Int)} {f h : Nat → Int} (hv : validE xs 6 = true) (hr : ∀ i, i < 6 → 0 ≤ f i ∧ f i < 6) (hh : ∀ j, j < 6 → h (f j).toNat = j) (hq : ∀ i, i < 6 → 0 ≤ h i ∧ h i < 6) : renO (renL xs (rowL f)) (rowL h) = .inr xs := by
  rw [ren_ok (ren_there hv hr) hq]
  congr 1
  refine renL_back (k := 6) hv fun i hi => ?_
  rw [rowL_at f hi]
  have h1 := hr i hi
  refine ⟨h1.1, ?_⟩
  rw [rowL_at h (by omega)]
  exact hh i hi
theorem maskG_lt (op : Int) (ho : op = 5 ∨ op = 12) : ∀ (xs : List (Int × Int)) (S : Nat), (xs.all fun t => argB t 6) = true → S < 4294967296 → maskG op xs S < 4294967296
  | [], S, _, hS => hS
  | t :: ts, S, h, hS => by
    rw [List.all_cons, Bool.and_eq_true] at h
    unfold maskG
    refine maskG_lt op ho ts _ h.2 ?_
    split
    · rename_i e
      have h1 := arg_var (op := t.1) (x := t.2) h.1 (by rw [e]; exact ho)
      exact or_lt hS (pow32 (d := t.2.toNat) (by omega))
    · exact hS
theorem readsF_lt {op : Int} (ho : op = 5 ∨ op = 12) (xs : List (Int × Int)) : readsF op xs < 4294967296 := by
  unfold readsF
  split
  · rename_i h
    refine maskG_lt op ho xs 0 ?_ (by decide)
    unfold validE at h
    rw [Bool.and_eq_true] at h
    exact h.2
  · decide
end Go.Proofs.Ytckofngclgkajaa
