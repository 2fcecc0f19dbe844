/- A row of names in memory; what Index, Good, level and Decimal of the specification of layer 6 answer. -/
import Derived.Test.YtokmehjofboflaaDoorExprSpell
import Derived.Test.YtokmehjofboflaaDoorExprPM
import Derived.Deep.QuietTactic
import Derived.BigQuiet
namespace Go.Proofs.YtokmehjofboflaaDoor
set_option maxRecDepth 100000
open Go.RowKit

theorem fact_or (T : Bytes) : factF T = cond (T == [116, 114, 117, 101]) 2 (cond (T == [102, 97, 108, 115, 101]) 3 (cond (T == [110, 111, 110, 101]) 4 (cond (T == [110]) 6 (cond (T == [105, 100, 115]) 7 (cond (T == [105, 100]) 8 (cond (T == [100, 101, 103]) 9 (cond (T == [114, 111, 111, 116]) 10 0))))))) := by
  unfold factF lookW factT
  simp only [List.find?]
  rw [show ([116, 114, 117, 101] == T) = (T == [116, 114, 117, 101]) from BEq.comm]
  cases hc0 : T == [116, 114, 117, 101]
  rotate_left
  · rfl
  rw [show ([102, 97, 108, 115, 101] == T) = (T == [102, 97, 108, 115, 101]) from BEq.comm]
  cases hc1 : T == [102, 97, 108, 115, 101]
  rotate_left
  · rfl
  rw [show ([110, 111, 110, 101] == T) = (T == [110, 111, 110, 101]) from BEq.comm]
  cases hc2 : T == [110, 111, 110, 101]
  rotate_left
  · rfl
  rw [show ([110] == T) = (T == [110]) from BEq.comm]
  cases hc3 : T == [110]
  rotate_left
  · rfl
  rw [show ([105, 100, 115] == T) = (T == [105, 100, 115]) from BEq.comm]
  cases hc4 : T == [105, 100, 115]
  rotate_left
  · rfl
  rw [show ([105, 100] == T) = (T == [105, 100]) from BEq.comm]
  cases hc5 : T == [105, 100]
  rotate_left
  · rfl
  rw [show ([100, 101, 103] == T) = (T == [100, 101, 103]) from BEq.comm]
  cases hc6 : T == [100, 101, 103]
  rotate_left
  · rfl
  rw [show ([114, 111, 111, 116] == T) = (T == [114, 111, 111, 116]) from BEq.comm]
  cases hc7 : T == [114, 111, 111, 116]
  rotate_left
  · rfl
  rfl
theorem field_or (T : Bytes) : fieldF T = cond (T == [105, 100]) 13 (cond (T == [100, 101, 103]) 14 (cond (T == [114, 111, 111, 116]) 15 (cond (T == [119, 101, 105, 103, 104, 116]) 16 (cond (T == [98, 97, 99, 107]) 17 0)))) := by
  unfold fieldF lookW fieldT
  simp only [List.find?]
  rw [show ([105, 100] == T) = (T == [105, 100]) from BEq.comm]
  cases hc0 : T == [105, 100]
  rotate_left
  · rfl
  rw [show ([100, 101, 103] == T) = (T == [100, 101, 103]) from BEq.comm]
  cases hc1 : T == [100, 101, 103]
  rotate_left
  · rfl
  rw [show ([114, 111, 111, 116] == T) = (T == [114, 111, 111, 116]) from BEq.comm]
  cases hc2 : T == [114, 111, 111, 116]
  rotate_left
  · rfl
  rw [show ([119, 101, 105, 103, 104, 116] == T) = (T == [119, 101, 105, 103, 104, 116]) from BEq.comm]
  cases hc3 : T == [119, 101, 105, 103, 104, 116]
  rotate_left
  · rfl
  rw [show ([98, 97, 99, 107] == T) = (T == [98, 97, 99, 107]) from BEq.comm]
  cases hc4 : T == [98, 97, 99, 107]
  rotate_left
  · rfl
  rfl
theorem aggw_or (T : Bytes) : aggW T = cond (T == [97, 108, 108]) 20 (cond (T == [115, 111, 109, 101]) 21 (cond (T == [99, 111, 117, 110, 116]) 22 (cond (T == [102, 105, 114, 115, 116]) 23 (cond (T == [109, 105, 110]) 24 (cond (T == [109, 97, 120]) 25 (cond (T == [115, 117, 109]) 26 (cond (T == [109, 101, 120]) 27 (cond (T == [115, 101, 99, 111, 110, 100]) 28 (cond (T == [104, 101, 97, 100]) 29 0))))))))) := by
  unfold aggW lookW aggT
  simp only [List.find?]
  rw [show ([97, 108, 108] == T) = (T == [97, 108, 108]) from BEq.comm]
  cases hc0 : T == [97, 108, 108]
  rotate_left
  · rfl
  rw [show ([115, 111, 109, 101] == T) = (T == [115, 111, 109, 101]) from BEq.comm]
  cases hc1 : T == [115, 111, 109, 101]
  rotate_left
  · rfl
  rw [show ([99, 111, 117, 110, 116] == T) = (T == [99, 111, 117, 110, 116]) from BEq.comm]
  cases hc2 : T == [99, 111, 117, 110, 116]
  rotate_left
  · rfl
  rw [show ([102, 105, 114, 115, 116] == T) = (T == [102, 105, 114, 115, 116]) from BEq.comm]
  cases hc3 : T == [102, 105, 114, 115, 116]
  rotate_left
  · rfl
  rw [show ([109, 105, 110] == T) = (T == [109, 105, 110]) from BEq.comm]
  cases hc4 : T == [109, 105, 110]
  rotate_left
  · rfl
  rw [show ([109, 97, 120] == T) = (T == [109, 97, 120]) from BEq.comm]
  cases hc5 : T == [109, 97, 120]
  rotate_left
  · rfl
  rw [show ([115, 117, 109] == T) = (T == [115, 117, 109]) from BEq.comm]
  cases hc6 : T == [115, 117, 109]
  rotate_left
  · rfl
  rw [show ([109, 101, 120] == T) = (T == [109, 101, 120]) from BEq.comm]
  cases hc7 : T == [109, 101, 120]
  rotate_left
  · rfl
  rw [show ([115, 101, 99, 111, 110, 100] == T) = (T == [115, 101, 99, 111, 110, 100]) from BEq.comm]
  cases hc8 : T == [115, 101, 99, 111, 110, 100]
  rotate_left
  · rfl
  rw [show ([104, 101, 97, 100] == T) = (T == [104, 101, 97, 100]) from BEq.comm]
  cases hc9 : T == [104, 101, 97, 100]
  rotate_left
  · rfl
  rfl
theorem sign_or (T : Bytes) : binF T = cond (T == [124, 124]) (42, 2) (cond (T == [38, 38]) (41, 3) (cond (T == [61, 61]) (35, 4) (cond (T == [33, 61]) (36, 4) (cond (T == [60]) (37, 4) (cond (T == [60, 61]) (38, 4) (cond (T == [62]) (39, 4) (cond (T == [62, 61]) (40, 4) (cond (T == [43]) (33, 5) (cond (T == [45]) (34, 5) (cond (T == [42]) (30, 6) (cond (T == [47]) (31, 6) (cond (T == [37]) (32, 6) (0, 0))))))))))))) := by
  unfold binF lookT signT
  simp only [List.find?]
  rw [show ([124, 124] == T) = (T == [124, 124]) from BEq.comm]
  cases hc0 : T == [124, 124]
  rotate_left
  · rfl
  rw [show ([38, 38] == T) = (T == [38, 38]) from BEq.comm]
  cases hc1 : T == [38, 38]
  rotate_left
  · rfl
  rw [show ([61, 61] == T) = (T == [61, 61]) from BEq.comm]
  cases hc2 : T == [61, 61]
  rotate_left
  · rfl
  rw [show ([33, 61] == T) = (T == [33, 61]) from BEq.comm]
  cases hc3 : T == [33, 61]
  rotate_left
  · rfl
  rw [show ([60] == T) = (T == [60]) from BEq.comm]
  cases hc4 : T == [60]
  rotate_left
  · rfl
  rw [show ([60, 61] == T) = (T == [60, 61]) from BEq.comm]
  cases hc5 : T == [60, 61]
  rotate_left
  · rfl
  rw [show ([62] == T) = (T == [62]) from BEq.comm]
  cases hc6 : T == [62]
  rotate_left
  · rfl
  rw [show ([62, 61] == T) = (T == [62, 61]) from BEq.comm]
  cases hc7 : T == [62, 61]
  rotate_left
  · rfl
  rw [show ([43] == T) = (T == [43]) from BEq.comm]
  cases hc8 : T == [43]
  rotate_left
  · rfl
  rw [show ([45] == T) = (T == [45]) from BEq.comm]
  cases hc9 : T == [45]
  rotate_left
  · rfl
  rw [show ([42] == T) = (T == [42]) from BEq.comm]
  cases hc10 : T == [42]
  rotate_left
  · rfl
  rw [show ([47] == T) = (T == [47]) from BEq.comm]
  cases hc11 : T == [47]
  rotate_left
  · rfl
  rw [show ([37] == T) = (T == [37]) from BEq.comm]
  cases hc12 : T == [37]
  rotate_left
  · rfl
  rfl
end Go.Proofs.YtokmehjofboflaaDoor
namespace Go.Proofs.YtokmehjofboflaaDoor
set_option maxRecDepth 100000
open Go.RowKit

def mkS (l : Bytes) : ByteArray := ⟨l.toArray⟩
theorem mkS_list (l : Bytes) : (mkS l).data.toList = l := by simp [mkS]
theorem mkS_data (s : ByteArray) : mkS s.data.toList = s := by cases s; simp [mkS]
theorem mkS_size (l : Bytes) : (mkS l).size = l.length := by simp [mkS, ByteArray.size]
theorem mkS_eq (l m : Bytes) : ((mkS l).toList == (mkS m).toList) = (l == m) := by
  rw [ByteArray.toList_eq, ByteArray.toList_eq, mkS_list, mkS_list]
theorem mkS_same (l : Bytes) : ((mkS l).toList == (mkS l).toList) = true := by simp
theorem mkS_not {l m : Bytes} (h : l ≠ m) : ((mkS l).toList == (mkS m).toList) = false := by rw [mkS_eq]; simpa using h
/-- a row of names -/
structure NamesAt (w : World) (a : Option Addr) (ns : List Bytes) : Prop where
  size : ns.length ≤ maxLen
  row : 0 < ns.length → ∃ b o, a = some ⟨b, o, none⟩ ∧ b < w.heap.size ∧ ∀ i, i < ns.length → w.cell? ⟨b, o + i, none⟩ = some (.string (mkS (ns.getD i [])))
theorem NamesAt.below {w w' : World} {B : Nat} {a : Option Addr} {ns : List Bytes} (h : NamesAt w a ns) (hb : Below B w w') (hB : B = w.heap.size) : NamesAt w' a ns := by
  subst hB
  refine ⟨h.size, fun h0 => ?_⟩
  obtain ⟨b, o, ha, hlt, hc⟩ := h.row h0
  exact ⟨b, o, ha, Nat.lt_of_lt_of_le hlt hb.size, fun i hi => (hb.cell (p := ⟨b, o + i, none⟩) hlt).trans (hc i hi)⟩
theorem NamesAt.take {w : World} {a : Option Addr} {ns : List Bytes} (h : NamesAt w a ns) (k : Nat) : NamesAt w a (ns.take k) := by
  refine ⟨by have := h.size; rw [List.length_take]; omega, fun h0 => ?_⟩
  rw [List.length_take] at h0
  obtain ⟨b, o, ha, hlt, hc⟩ := h.row (by omega)
  refine ⟨b, o, ha, hlt, fun i hi => ?_⟩
  rw [List.length_take] at hi
  rw [hc i (by omega)]
  simp only [List.getD_eq_getElem?_getD]
  rw [List.getElem?_take_of_lt (by omega)]
theorem idx_first : ∀ {ns : List Bytes} {l : Bytes} {k : Nat}, k < ns.length → (∀ j, j < k → ns.getD j [] ≠ l) → ns.getD k [] = l → idxI ns l = k
  | [], _, _, h, _, _ => by simp at h
  | x :: r, l, 0, _, _, h => by
    have : x = l := h
    unfold idxI idxN
    rw [if_pos this]
    first | done | rfl
  | x :: r, l, k + 1, hk, hj, h => by
    have h0 : x ≠ l := hj 0 (by omega)
    have ih := idx_first (ns := r) (l := l) (k := k) (by simpa using hk) (fun j h => hj (j + 1) (by omega)) h
    unfold idxI at ih ⊢
    unfold idxN
    rw [if_neg h0]
    cases hr : idxN r l with
    | none => rw [hr] at ih; dsimp only at ih; omega
    | some m =>
      rw [hr] at ih
      dsimp only at ih ⊢
      show ((m + 1 : Nat) : Int) = ((k + 1 : Nat) : Int)
      omega
theorem idx_none : ∀ {ns : List Bytes} {l : Bytes}, (∀ j, j < ns.length → ns.getD j [] ≠ l) → idxI ns l = -1
  | [], _, _ => rfl
  | x :: r, l, hj => by
    have h0 : x ≠ l := hj 0 (by simp)
    have ih := idx_none (ns := r) (l := l) (fun j h => hj (j + 1) (by simpa using h))
    unfold idxI at ih ⊢
    unfold idxN
    rw [if_neg h0]
    cases hr : idxN r l with
    | none => rfl
    | some m => rw [hr] at ih; dsimp only at ih; omega
theorem goodN_iff : ∀ {l done : List Bytes}, goodN done l = true ↔ ∀ i, i < l.length → nameF (l.getD i []) = true ∧ idxI (done ++ l.take i) (l.getD i []) < 0
  | [], _ => ⟨fun _ i h => by simp at h, fun _ => rfl⟩
  | x :: r, done => by
    unfold goodN
    simp only [Bool.and_eq_true, decide_eq_true_eq]
    rw [goodN_iff (l := r)]
    constructor
    · rintro ⟨⟨h1, h2⟩, h3⟩ i hi
      cases i with
      | zero => exact ⟨h1, by simpa using h2⟩
      | succ i =>
        have := h3 i (by simpa using hi)
        simpa using this
    · intro h
      have h0 := h 0 (by simp)
      refine ⟨⟨h0.1, by simpa using h0.2⟩, fun i hi => ?_⟩
      have := h (i + 1) (by simpa using hi)
      simpa using this
theorem good_yes {ns : List Bytes} (h6 : ns.length ≤ 6) (h : ∀ i, i < ns.length → nameF (ns.getD i []) = true ∧ idxI (ns.take i) (ns.getD i []) < 0) : goodF ns = true := by
  unfold goodF
  rw [Bool.and_eq_true, decide_eq_true_eq]
  exact ⟨h6, goodN_iff.2 h⟩
theorem good_no {ns : List Bytes} {i : Nat} (hi : i < ns.length) (h : nameF (ns.getD i []) = false ∨ 0 ≤ idxI (ns.take i) (ns.getD i [])) : goodF ns = false := by
  rw [Bool.eq_false_iff]
  intro hg
  unfold goodF at hg
  rw [Bool.and_eq_true, decide_eq_true_eq] at hg
  have := goodN_iff.1 hg.2 i hi
  rw [List.nil_append] at this
  rcases h with h | h
  · rw [h] at this
    cases this.1
  · omega
theorem good_long {ns : List Bytes} (h : 6 < ns.length) : goodF ns = false := by
  unfold goodF
  rw [Bool.and_eq_false_iff]
  left
  simpa using h
end Go.Proofs.YtokmehjofboflaaDoor
