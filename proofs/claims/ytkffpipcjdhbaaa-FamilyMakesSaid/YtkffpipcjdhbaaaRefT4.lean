/- What node of the specification of layer 2 answers. -/
import Derived.Test.YtkffpipcjdhbaaaRefT3
namespace Go.Proofs.Ytkffpipcjdhbaaa
open Go.RowKit

theorem split_short (c : UInt8) : ∀ (l : Bytes) (w : Bytes), w ∈ splitB c l → w.length ≤ l.length
  | [], w, h => by simp [splitB] at h; rw [h]; simp
  | x :: l, w, h => by
    by_cases hx : x = c
    · rw [hx, split_at] at h
      rcases List.mem_cons.1 h with rfl | h
      · simp
      · have := split_short c l w h; simp; omega
    · rw [split_other hx] at h
      obtain ⟨v, vs, e⟩ := split_cons c l
      rw [e] at h
      simp [preHead] at h
      rcases h with rfl | h
      · have := split_short c l v (by rw [e]; simp)
        simp; omega
      · have := split_short c l w (by rw [e]; simp [h])
        simp; omega
theorem word_mem {ws : List Bytes} {i : Nat} (h : i < ws.length) : wordA ws i ∈ ws := by
  unfold wordA
  simp [List.getD, List.getElem?_eq_getElem h]
theorem word_short {c : UInt8} {l : Bytes} {i : Nat} (h : i < (splitB c l).length) : (wordA (splitB c l) i).length ≤ l.length := split_short c l _ (word_mem h)

theorem ports_snoc {p : Port} {x : Bytes} (hx : portB x = some p) : ∀ {l : List Bytes} {qs : List Port}, portsB l = some qs → portsB (l ++ [x]) = some (qs ++ [p])
  | [], qs, h => by
    have : qs = [] := by simpa [portsB] using h.symm
    rw [this]
    simp [portsB, hx]
  | y :: l, qs, h => by
    unfold portsB at h
    split at h
    · rename_i q rs hq hr
      have e : q :: rs = qs := by simpa using h
      have := ports_snoc hx hr
      rw [List.cons_append, portsB, hq, this, ← e]
      rfl
    · cases h
theorem ports_bad {x : Bytes} (hx : portB x = none) : ∀ {l : List Bytes}, x ∈ l → portsB l = none
  | [], h => by simp at h
  | y :: l, h => by
    unfold portsB
    rcases List.mem_cons.1 h with rfl | h
    · rw [hx]
    · rw [ports_bad hx h]
      split
      · rename_i h1 h2; cases h2
      · rfl
theorem num_of {l : Bytes} (h : numK l = true) : ∃ n : Nat, numB l = some n ∧ numI l = n ∧ n < 1000000 := by
  unfold numK at h
  obtain ⟨n, hn⟩ := Option.isSome_iff_exists.1 h
  exact ⟨n, hn, by unfold numI; rw [hn], num_lt hn⟩
theorem num_off {l : Bytes} (h : numK l = false) : numB l = none := by
  unfold numK at h
  cases hn : numB l with
  | none => rfl
  | some n => rw [hn] at h; cases h
theorem two_words {xs : List Bytes} (h : xs.length = 2) : xs = [wordA xs 0, wordA xs 1] := by
  match xs, h with
  | [a, b], _ => rfl
theorem port_two {x : Bytes} (h : (splitB 47 x).length = 2) : portB x = match numB (wordA (splitB 47 x) 0), numB (wordA (splitB 47 x) 1) with
    | some t, some w => some (t, w)
    | _, _ => none := by
  unfold portB
  rw [two_words h]
  rfl
theorem port_not {x : Bytes} (h : (splitB 47 x).length ≠ 2) : portB x = none := by
  unfold portB
  split
  · rename_i a b e
    rw [e] at h
    exact absurd rfl h
  · rfl
theorem line_short {l : Bytes} (h : (splitB 32 l).length < 2) : lineB l = none := by
  unfold lineB
  split
  · rename_i k i ps e
    rw [e] at h
    simp at h
    omega
  · rfl
theorem line_of {l : Bytes} (h : 2 ≤ (splitB 32 l).length) : lineB l = if wordA (splitB 32 l) 0 = nodeW then match numB (wordA (splitB 32 l) 1), portsB ((splitB 32 l).drop 2) with
      | some id, some p => some (id, p)
      | _, _ => none
    else none := by
  unfold lineB
  match hs : splitB 32 l, h with
  | k :: i :: ps, _ => rfl

def linkCells (ps : List Port) : List Value := ps.flatMap fun p => [.int .i64 (p.1 : Int), .int .i64 (p.2 : Int)]
theorem linkCells_len : ∀ ps : List Port, (linkCells ps).length = 2 * ps.length
  | [] => rfl
  | p :: ps => by
    have := linkCells_len ps
    unfold linkCells at this ⊢
    simp [List.flatMap_cons, this]
    omega
/-- the row of the links ps, that the call owns -/
def LinkRow (base : Nat) (w : World) (v : Value) (ps : List Port) : Prop := w.ownsRow base 50 2 v ps.length (linkCells ps)
theorem infoLink : (Try.prog.info? 50).map (fun i => (i.zero, i.size, i.bytes)) = some (some (.agg #[.int .i64 0, .int .i64 0]), 2, 16) := by kernel_rfl

theorem LinkRow.mono {B B' : Nat} {w : World} {v : Value} {ps : List Port} (h : LinkRow B w v ps) (hB : B' ≤ B) : LinkRow B' w v ps := by
  refine ⟨h.1, ?_⟩
  rcases h.2 with h1 | ⟨g, cap, cur, e, hb, rest⟩
  · exact .inl h1
  · exact .inr ⟨g, cap, cur, e, Nat.le_trans hB hb, rest⟩
def NodeSays (base : Nat) (w : World) (l : Bytes) (e : Ending) : Prop :=
  (lineB l = none ∧ e = .returned (.tuple #[.int .i64 0, .slice none 0 0, .bool false])) ∨
  ∃ (id : Nat) (ps : List Port) (v : Value), lineB l = some (id, ps) ∧ e = .returned (.tuple #[.int .i64 (id : Int), v, .bool true]) ∧ LinkRow base w v ps

theorem strs_cell {w : World} {b : Nat} {ws : List Bytes} (h : StrsAt w (some ⟨b, 0, none⟩) ws) {i : Nat} (hi : i < ws.length) : w.cell? ⟨b, i, none⟩ = some (.string ⟨(wordA ws i).toArray⟩) := by
  rcases h with h | ⟨b', o, e, _, hc⟩
  · omega
  · injection e with e
    injection e with e1 e2
    subst e1
    subst e2
    have := hc i hi
    rw [Nat.zero_add] at this
    exact this
theorem new_cells (w : World) (cs : Array Value) (t : TypeId) (j : Nat) (u : Value) (h : cs.toList[j]? = some u) : (w.alloc (.cells cs t)).cell? ((⟨w.heap.size, 0, none⟩ : Addr).add j) = some u := by
  rw [add_none, Nat.zero_add, World.cell?_alloc_new]
  simpa using h
theorem ret_node {a c : Int} {u v : Value} {b d : Bool} (h : a = c) (h2 : b = d) (h3 : u = v) : Ending.returned (.tuple #[.int .i64 a, u, .bool b]) = .returned (.tuple #[.int .i64 c, v, .bool d]) := by rw [h, h2, h3]

end Go.Proofs.Ytkffpipcjdhbaaa
