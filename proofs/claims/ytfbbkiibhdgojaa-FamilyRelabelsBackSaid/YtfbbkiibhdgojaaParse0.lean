/- What a text's lines read as, line by line; what Parse answers; a graph out of two rows. -/
import Derived.Test.YtfbbkiibhdgojaaTwo
namespace Go.Proofs.Ytfbbkiibhdgojaa
open Go.RowKit

/-- the first k lines are the nodes xs -/
def ReadTo (ls : List Bytes) (k : Nat) (xs : List Node) : Prop := k ≤ ls.length ∧ (ls.take k).map lineB = xs.map some
theorem read_app : ∀ {a : List Bytes} {xs : List Node} (j : Nat) (b : List Bytes), a.map lineB = xs.map some → readB j (a ++ b) = match readB (j + a.length) b with
    | .inl e => .inl e
    | .inr ys => .inr (xs ++ ys)
  | [], xs, j, b, h => by
    have : xs = [] := by simpa using h.symm
    rw [this]
    simp only [List.nil_append, List.length_nil, Nat.add_zero]
    cases readB j b <;> rfl
  | l :: a, xs, j, b, h => by
    cases xs with
    | nil => simp at h
    | cons x xs =>
      simp only [List.map_cons, List.cons.injEq] at h
      have ih := read_app (a := a) (xs := xs) (j + 1) b h.2
      rw [List.cons_append, readB, h.1]
      simp only [ih, List.length_cons]
      rw [show j + 1 + a.length = j + (a.length + 1) by omega]
      cases readB (j + (a.length + 1)) b <;> rfl
theorem ReadTo.zero (ls : List Bytes) : ReadTo ls 0 [] := ⟨Nat.zero_le _, by simp⟩
theorem ReadTo.len {ls : List Bytes} {k : Nat} {xs : List Node} (h : ReadTo ls k xs) : xs.length = k := by
  have := congrArg List.length h.2
  simp at this
  have := h.1
  omega
theorem drop_word {ls : List Bytes} {k : Nat} (hk : k < ls.length) : ls.drop k = wordA ls k :: ls.drop (k + 1) := by
  rw [List.drop_eq_getElem_cons hk]
  simp [wordA, List.getD, List.getElem?_eq_getElem hk]
theorem ReadTo.next {ls : List Bytes} {k : Nat} {xs : List Node} {x : Node} (h : ReadTo ls k xs) (hk : k < ls.length) (hx : lineB (wordA ls k) = some x) : ReadTo ls (k + 1) (xs ++ [x]) := by
  refine ⟨hk, ?_⟩
  rw [List.take_succ_eq_append_getElem hk]
  have e : ls[k] = wordA ls k := by simp [wordA, List.getD, List.getElem?_eq_getElem hk]
  rw [e, List.map_append, List.map_append, h.2]
  simp [hx]
theorem ReadTo.bad {ls : List Bytes} {k : Nat} {xs : List Node} (h : ReadTo ls k xs) (hk : k < ls.length) (hx : lineB (wordA ls k) = none) : readB 1 ls = .inl (k + 1) := by
  have e : ls = ls.take k ++ ls.drop k := (List.take_append_drop _ _).symm
  rw [e, read_app 1 _ h.2, drop_word hk, readB, hx]
  simp
  omega
theorem ReadTo.all {ls : List Bytes} {xs : List Node} (h : ReadTo ls ls.length xs) : readB 1 ls = .inr xs := by
  have h2 := h.2
  rw [List.take_length] at h2
  have := read_app 1 [] h2
  rw [List.append_nil] at this
  rw [this]
  simp [readB]
theorem ReadTo.small {ls : List Bytes} {k : Nat} {xs : List Node} (h : ReadTo ls k xs) : ∀ x ∈ xs, NodeSmall x := by
  intro x hx
  have : some x ∈ (ls.take k).map lineB := by rw [h.2]; exact List.mem_map.2 ⟨x, hx, rfl⟩
  obtain ⟨l, _, hl⟩ := List.mem_map.1 this
  exact (fmt_line hl).2

/-! ### What Parse answers -/
def parseRet (a b : Value) (k : Int) (e : Int) : Ending := .returned (.tuple #[.agg #[a, b], .int .i64 k, .int .i64 e])
def parseBad (k : Int) (e : Int) : Ending := parseRet (.slice none 0 0) (.slice none 0 0) k e
def ParseSays (t : Bytes) (e : Ending) (w' : World) : Prop :=
  (16384 < t.length ∧ e = parseBad 0 3) ∨ (t.length ≤ 16384 ∧ ∃ k : Nat, textB t = .inl k ∧ e = parseBad k 4) ∨
  (t.length ≤ 16384 ∧ ∃ xs, textB t = .inr xs ∧ validB (grOf xs) = false ∧ e = parseBad 0 1) ∨
  (t.length ≤ 16384 ∧ ∃ xs, textB t = .inr xs ∧ validB (grOf xs) = true ∧ ∃ ia il ic pa pl pc, e = parseRet (.slice ia il ic) (.slice pa pl pc) 0 0 ∧ GraphAt w' ia il pa pl (grOf xs))

/-! ### A graph out of rows -/
def idsV (xs : List Node) : List Value := xs.map fun x => .int .i64 (x.1 : Int)
theorem own_slice {w : World} {base : Nat} {e : TypeId} {s : Nat} {v : Value} {n : Nat} {xs : List Value} (h : w.ownsRow base e s v n xs) : ∃ a c, v = .slice a n c ∧ n ≤ maxLen ∧ (0 < n → ∃ g, a = some ⟨g, 0, none⟩ ∧ g < w.heap.size) := by
  rcases h.2 with ⟨rfl, rfl⟩ | ⟨g, cap, cur, rfl, _, hg, h1, h2, _⟩
  · exact ⟨none, 0, rfl, by unfold maxLen; omega, fun h => absurd h (by omega)⟩
  · exact ⟨some ⟨g, 0, none⟩, cap, rfl, by omega, fun _ => ⟨g, rfl, (Array.getElem?_eq_some_iff.1 hg).1⟩⟩
theorem own_cell {w : World} {base : Nat} {e : TypeId} {s : Nat} {g n c : Nat} {xs : List Value} (h : w.ownsRow base e s (.slice (some ⟨g, 0, none⟩) n c) n xs) {j : Nat} {u : Value} (hu : xs[j]? = some u) : w.cell? ⟨g, 0 + j, none⟩ = some u := by
  have := World.ownsRow.cells h (g := g) rfl j u hu
  rw [add_none] at this
  exact this
theorem linkCells_at : ∀ {ps : List Port} {i : Nat} (h : i < ps.length), (linkCells ps)[i * 2]? = some (.int .i64 (ps[i].1 : Int)) ∧ (linkCells ps)[i * 2 + 1]? = some (.int .i64 (ps[i].2 : Int))
  | p :: ps, 0, _ => ⟨rfl, rfl⟩
  | p :: ps, i + 1, h => by
    have ih := linkCells_at (ps := ps) (i := i) (by simpa using h)
    have e : linkCells (p :: ps) = .int .i64 (p.1 : Int) :: .int .i64 (p.2 : Int) :: linkCells ps := rfl
    rw [e, show (i + 1) * 2 = i * 2 + 1 + 1 by omega]
    simp only [List.getElem?_cons_succ, List.getElem_cons_succ]
    exact ih
def intsP (ps : List Port) : List (Int × Int) := ps.map fun p => ((p.1 : Int), (p.2 : Int))
theorem intsP_at {ps : List Port} {i : Nat} (h : i < ps.length) : toA (intsP ps) i = (ps[i].1 : Int) ∧ wtA (intsP ps) i = (ps[i].2 : Int) := by
  simp [intsP, toA, wtA, List.getD, List.getElem?_eq_getElem h]
theorem link_at {base : Nat} {w : World} {v : Value} {ps : List Port} (h : LinkRow base w v ps) (hs : ∀ p ∈ ps, PortSmall p) : ∃ la lc, v = .slice la ps.length lc ∧ LinksAt w la (intsP ps) := by
  obtain ⟨a, c, rfl, hm, hp⟩ := own_slice h
  refine ⟨a, c, rfl, by simpa [intsP] using hm, fun h0 => ?_, fun x hx => ?_⟩
  · have hl : (intsP ps).length = ps.length := by simp [intsP]
    obtain ⟨g, rfl, hg⟩ := hp (by omega)
    refine ⟨g, 0, rfl, hg, fun i hi => ?_⟩
    rw [hl] at hi
    obtain ⟨e1, e2⟩ := linkCells_at hi
    obtain ⟨e3, e4⟩ := intsP_at hi
    rw [e3, e4]
    exact ⟨own_cell h e1, by rw [Nat.add_assoc]; exact own_cell h e2⟩
  · obtain ⟨p, hp', rfl⟩ := List.mem_map.1 hx
    have := hs p hp'
    unfold PortSmall at this
    exact ⟨⟨by simp, by simp; omega⟩, ⟨by simp, by simp; omega⟩⟩
theorem grOf_row' {xs : List Node} {v : Nat} (h : v < xs.length) : rowA (grOf xs).ps v = intsP xs[v].2 := grOf_row h
theorem rows_graph {w : World} {B : Nat} {v1 v2 : Value} {ps : List (Value × List Port)} {xs : List Node} (o1 : w.ownsRow B 3 1 v1 (idsV xs).length (idsV xs)) (o2 : w.ownsRow B 38 1 v2 (ps.map Prod.fst).length (ps.map Prod.fst))
    (lk : ∀ p ∈ ps, LinkRow B w p.1 p.2) (hps : ps.map Prod.snd = xs.map Prod.snd) (hs : ∀ x ∈ xs, NodeSmall x) :
    ∃ ia ic pa pc, v1 = .slice ia xs.length ic ∧ v2 = .slice pa xs.length pc ∧ GraphAt w ia xs.length pa xs.length (grOf xs) := by
  have hl : ps.length = xs.length := by simpa using congrArg List.length hps
  have l1 : (idsV xs).length = xs.length := by simp [idsV]
  have l2 : (ps.map Prod.fst).length = xs.length := by simpa using hl
  rw [l1] at o1
  rw [l2] at o2
  obtain ⟨ia, ic, rfl, m1, p1⟩ := own_slice o1
  obtain ⟨pa, pc, rfl, m2, p2⟩ := own_slice o2
  refine ⟨ia, ic, pa, pc, rfl, rfl, (grOf_len xs).2.symm, (grOf_len xs).1.symm, ⟨by rw [(grOf_len xs).2]; exact m1, fun h0 => ?_, fun z hz => ?_⟩, ⟨by rw [(grOf_len xs).1]; exact m2, fun h0 => ?_⟩⟩
  · rw [(grOf_len xs).2] at h0
    obtain ⟨g, rfl, hg⟩ := p1 h0
    refine ⟨g, 0, rfl, hg, fun i hi => ?_⟩
    rw [(grOf_len xs).2] at hi
    rw [grOf_id hi]
    exact own_cell o1 (by simp [idsV, List.getElem?_eq_getElem hi])
  · obtain ⟨x, hx, rfl⟩ := List.mem_map.1 hz
    have := (hs x hx).1
    exact ⟨by omega, by omega⟩
  · rw [(grOf_len xs).1] at h0
    obtain ⟨g, rfl, hg⟩ := p2 h0
    refine ⟨g, 0, rfl, hg, fun v hv => ?_⟩
    rw [(grOf_len xs).1] at hv
    have hv2 : v < ps.length := by omega
    rw [grOf_row' hv]
    have e : ps[v].2 = xs[v].2 := by
      have e1 : (ps.map Prod.snd)[v]? = (xs.map Prod.snd)[v]? := by rw [hps]
      simpa [List.getElem?_eq_getElem hv, List.getElem?_eq_getElem hv2] using e1
    have hsm : ∀ p ∈ ps[v].2, PortSmall p := by rw [e]; exact (hs xs[v] (List.getElem_mem hv)).2
    obtain ⟨la, lc, hv1, hla⟩ := link_at (lk ps[v] (List.getElem_mem hv2)) hsm
    refine ⟨la, lc, ?_, by rw [← e]; exact hla⟩
    rw [← e]
    rw [show (intsP ps[v].2).length = ps[v].2.length by simp [intsP], ← hv1]
    exact own_cell o2 (by simp [List.getElem?_eq_getElem hv2])
theorem two_graph {w0 w : World} {gb : Nat} {x1 x2 v1 v2 : Value} {ps : List (Value × List Port)} {es : List (Nat × Value)} {xs : List Node}
    (h : Two w0 gb 3 38 w x1 x2 v1 (idsV xs) v2 (ps.map Prod.fst) ps es) (hps : ps.map Prod.snd = xs.map Prod.snd) (hs : ∀ x ∈ xs, NodeSmall x) :
    ∃ ia ic pa pc, v1 = .slice ia xs.length ic ∧ v2 = .slice pa xs.length pc ∧ GraphAt w ia xs.length pa xs.length (grOf xs) :=
  rows_graph h.o1 h.o2 (fun p hp => (h.lk p hp).1) hps hs
/-- the graph stands where a block that is older than its rows is written -/
theorem two_graph_far {w0 w w' : World} {gb r : Nat} {x1 x2 : Value} {ia pa : Option Addr} {ic pc : Nat} {ps : List (Value × List Port)} {es : List (Nat × Value)} {xs : List Node}
    (h : Two w0 gb 3 38 w x1 x2 (.slice ia xs.length ic) (idsV xs) (.slice pa xs.length pc) (ps.map Prod.fst) ps es) (hps : ps.map Prod.snd = xs.map Prod.snd) (hs : ∀ x ∈ xs, NodeSmall x)
    (hg : w.grownBy w' (some r)) (hr : r < w0.heap.size) : GraphAt w' ia xs.length pa xs.length (grOf xs) := by
  obtain ⟨ia', ic', pa', pc', e1, e2, h3⟩ := rows_graph (h.o1.kept hg (own_far h.o1 hr)) (h.o2.kept hg (own_far h.o2 hr)) (fun p hp => World.ownsRow.kept (h.lk p hp).1 hg (own_far (h.lk p hp).1 hr)) hps hs
  injection e1 with e1
  injection e2 with e2
  rw [e1, e2]
  exact h3
/-- one node more -/
theorem two_next {w0 w w2 : World} {gb : Nat} {e1 e2 : TypeId} {x1 x2 v1 v2 u : Value} {l1 l2 : List Value} {ps : List (Value × List Port)} {es : List (Nat × Value)} {p : List Port}
    (h : Two w0 gb e1 e2 w x1 x2 v1 l1 v2 l2 ps es) (hb : Below w.heap.size w w2) (hu : LinkRow w.heap.size w2 u p) : Two w0 gb e1 e2 w2 x1 x2 v1 l1 v2 l2 (ps ++ [(u, p)]) es := by
  have hsz := h.fr.size
  refine (h.below hb).link ⟨hu.mono hsz, ?_⟩
  cases e : u.ownBlock with
  | none => exact .inl rfl
  | some k =>
    have hk := (World.ownsRow.lt hu k e).1
    refine .inr ⟨fun e' => ?_, fun e' => ?_⟩
    · have := (h.o1.lt k e'.symm).2
      omega
    · have := (h.o2.lt k e'.symm).2
      omega
end Go.Proofs.Ytfbbkiibhdgojaa
