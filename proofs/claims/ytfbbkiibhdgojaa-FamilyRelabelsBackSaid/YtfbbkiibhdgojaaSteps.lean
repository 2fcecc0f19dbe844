/- Steps of a walk on a graph under construction; the rows of a graph, built one after another. -/
import Derived.Test.YtfbbkiibhdgojaaPlain
namespace Go.Proofs.Ytfbbkiibhdgojaa
open Go.RowKit

section
variable {ops : Array Oper} {o : Oper} {a : Act} {w W : World} {K : Act → World → Prop} {Q : Exit → Act → World → Prop} {E : Prop}
  {gb : Nat} {x1 x2 v1 v2 : Value} {zs : List Int} {hs : List Value} {us : List (Value × List (Int × Int))}
theorem linkNew {w : World} {nb : Nat} {p : Int × Int} (h0 : w.cell? ⟨nb, 0, none⟩ = some (.int .i64 p.1)) (h1 : w.cell? ⟨nb, 1, none⟩ = some (.int .i64 p.2)) : ∀ j u, [Value.int .i64 p.1, Value.int .i64 p.2][j]? = some u → w.cell? ((⟨nb, 0, none⟩ : Addr).add j) = some u := fun j u hj => by
  rw [add_none, Nat.zero_add]
  match j, hj with
  | 0, hj => simp at hj; subst hj; exact h0
  | 1, hj => simp at hj; subst hj; exact h1
/-- a link is appended to row r, at a step of a region that draws its order -/
theorem step_link (hgd : o.guard = none) (s x : Operand) (t : TypeId) (ho : o.op = .call { callee := .builtin .append, args := #[s, x], argTypes := #[t, t] }) (ht : Try.prog.underlying t = some (.slice 41))
    (nb : Nat) (p : Int × Int) (r : Nat) (u : Value) (xs : List (Int × Int)) (hs' : a.eval s = u) (hx : a.eval x = .slice (some ⟨nb, 0, none⟩) 1 1) (h : Made W gb w x1 x2 v1 zs v2 hs us) (hr : us[r]? = some (u, xs))
    (h0 : w.cell? ⟨nb, 0, none⟩ = some (.int .i64 p.1)) (h1 : w.cell? ⟨nb, 1, none⟩ = some (.int .i64 p.2)) (h63 : xs.length + 1 ≤ 1000000)
    (hK : ∀ g cap w', Made W gb w' x1 x2 v1 zs v2 hs (us.set r (.slice (some ⟨g, 0, none⟩) (xs.length + 1) cap, xs ++ [p])) → K (a.put o.dst (.slice (some ⟨g, 0, none⟩) (xs.length + 1) cap)) w') :
    if Region.wanted o (yielded ops a.tmps) = true then Oper.wp Try.prog o a w K Q else E := by
  obtain ⟨i, hi, hz, hz1, hz2⟩ := info_parts infoLnk
  have hsz := h.fr.size
  have hown : w.ownsRow W.heap.size 41 2 u xs.length (linkVs xs) := h.lnk (u := (u, xs)) (List.mem_of_getElem? hr)
  exact step_append_lies w hgd s x t ho W.heap.size 41 i (.agg #[.int .i64 0, .int .i64 0]) 2 16 ht hi hz hz1 hz2 rfl (by decide) u xs.length (linkVs xs) hs' hown ⟨nb, 0, none⟩ 1 1 [.int .i64 p.1, .int .i64 p.2] hx rfl (linkNew h0 h1) (fun v hv => by
      simp at hv
      rcases hv with rfl | rfl <;> rfl) (by decide) (by unfold maxLen; omega) (by omega) hsz w.heap.size rfl fun g cap w' h1 h2 h3 _ => hK g cap w' (h.appL hr rfl h1 h2 h3)
theorem wpList_link {rest : List Oper} (hgd : o.guard = none) (s x : Operand) (t : TypeId) (ho : o.op = .call { callee := .builtin .append, args := #[s, x], argTypes := #[t, t] }) (ht : Try.prog.underlying t = some (.slice 41))
    (nb : Nat) (p : Int × Int) (r : Nat) (u : Value) (xs : List (Int × Int)) (hs' : a.eval s = u) (hx : a.eval x = .slice (some ⟨nb, 0, none⟩) 1 1) (h : Made W gb w x1 x2 v1 zs v2 hs us) (hr : us[r]? = some (u, xs))
    (h0 : w.cell? ⟨nb, 0, none⟩ = some (.int .i64 p.1)) (h1 : w.cell? ⟨nb, 1, none⟩ = some (.int .i64 p.2)) (h63 : xs.length + 1 ≤ 1000000)
    (hK : ∀ g cap w', Made W gb w' x1 x2 v1 zs v2 hs (us.set r (.slice (some ⟨g, 0, none⟩) (xs.length + 1) cap, xs ++ [p])) → wpList Try.prog ops Q rest (a.put o.dst (.slice (some ⟨g, 0, none⟩) (xs.length + 1) cap)) w') :
    wpList Try.prog ops Q (o :: rest) a w := by
  obtain ⟨i, hi, hz, hz1, hz2⟩ := info_parts infoLnk
  have hsz := h.fr.size
  have hown : w.ownsRow W.heap.size 41 2 u xs.length (linkVs xs) := h.lnk (u := (u, xs)) (List.mem_of_getElem? hr)
  exact wpList_append_lies w hgd s x t ho W.heap.size 41 i (.agg #[.int .i64 0, .int .i64 0]) 2 16 ht hi hz hz1 hz2 rfl (by decide) u xs.length (linkVs xs) hs' hown ⟨nb, 0, none⟩ 1 1 [.int .i64 p.1, .int .i64 p.2] hx rfl (linkNew h0 h1) (fun v hv => by
      simp at hv
      rcases hv with rfl | rfl <;> rfl) (by decide) (by unfold maxLen; omega) (by omega) hsz w.heap.size rfl fun g cap w' h1 h2 h3 _ => hK g cap w' (h.appL hr rfl h1 h2 h3)
end

/-! ### Rows that are built one after another -/
/-- n rows: row v is R v -/
def RowsR (n : Nat) (R : Nat → List (Int × Int)) (us : List (Value × List (Int × Int))) : Prop := us.length = n ∧ ∀ v, v < n → (us.map Prod.snd)[v]? = some (R v)
/-- the first k rows are there, the others are empty -/
def upR (R : Nat → List (Int × Int)) (k v : Nat) : List (Int × Int) := if v < k then R v else []
/-- as above; and row k is xs -/
def upRx (R : Nat → List (Int × Int)) (k : Nat) (xs : List (Int × Int)) (v : Nat) : List (Int × Int) := if v = k then xs else upR R k v
theorem RowsR.bare (n : Nat) (R : Nat → List (Int × Int)) : RowsR n (upR R 0) (bare n) := ⟨bare_len n, fun v hv => by simp [upR, Go.Proofs.Ytfbbkiibhdgojaa.bare, hv]⟩
theorem RowsR.at {n : Nat} {R : Nat → List (Int × Int)} {us : List (Value × List (Int × Int))} (h : RowsR n R us) {v : Nat} (hv : v < n) : ∃ u, us[v]? = some (u, R v) := by
  have h1 := h.2 v hv
  rw [List.getElem?_map] at h1
  obtain ⟨⟨u, xs⟩, hu, e⟩ := Option.map_eq_some_iff.1 h1
  exact ⟨u, by rw [hu, ← e]⟩
theorem RowsR.set {n : Nat} {R R' : Nat → List (Int × Int)} {us : List (Value × List (Int × Int))} (h : RowsR n R us) {k : Nat} {u : Value} {xs : List (Int × Int)} (hk : R' k = xs) (ho : ∀ v, v ≠ k → v < n → R' v = R v) : RowsR n R' (us.set k (u, xs)) := by
  refine ⟨by rw [List.length_set]; exact h.1, fun v hv => ?_⟩
  rw [List.map_set]
  by_cases e : v = k
  · subst e
    rw [List.getElem?_set_self (by simp [h.1]; exact hv), hk]
  · rw [List.getElem?_set_ne (Ne.symm e), h.2 v hv, ho v e hv]
theorem RowsR.whole {n : Nat} {R : Nat → List (Int × Int)} {us : List (Value × List (Int × Int))} (h : RowsR n (upR R n) us) : us.map Prod.snd = (List.range n).map R := by
  refine List.ext_getElem? fun v => ?_
  by_cases hv : v < n
  · rw [h.2 v hv]
    simp [upR, hv]
  · rw [List.getElem?_eq_none (by simp [h.1]; omega), List.getElem?_eq_none (by simp; omega)]
theorem RowsR.begin {n : Nat} {R : Nat → List (Int × Int)} {us : List (Value × List (Int × Int))} {k : Nat} (h : RowsR n (upR R k) us) : RowsR n (upRx R k []) us := by
  refine ⟨h.1, fun v hv => ?_⟩
  rw [h.2 v hv]
  unfold upRx
  split
  · rename_i e; subst e; simp [upR]
  · rfl
theorem RowsR.finish {n : Nat} {R : Nat → List (Int × Int)} {us : List (Value × List (Int × Int))} {k : Nat} {xs : List (Int × Int)} (h : RowsR n (upRx R k xs) us) (hx : xs = R k) : RowsR n (upR R (k + 1)) us := by
  refine ⟨h.1, fun v hv => ?_⟩
  rw [h.2 v hv]
  unfold upRx upR
  subst hx
  by_cases e : v = k
  · subst e; simp
  · simp only [e, if_false]
    by_cases hlt : v < k
    · rw [if_pos hlt, if_pos (by omega)]
    · rw [if_neg hlt, if_neg (by omega)]
theorem RowsR.snoc {n : Nat} {R : Nat → List (Int × Int)} {us : List (Value × List (Int × Int))} {k : Nat} {xs : List (Int × Int)} (h : RowsR n (upRx R k xs) us) (u : Value) (p : Int × Int) : RowsR n (upRx R k (xs ++ [p])) (us.set k (u, xs ++ [p])) :=
  h.set (by simp [upRx]) (fun v hv _ => by simp [upRx, hv])
theorem hdr_set (us : List (Value × List (Int × Int))) (k : Nat) (u : Value) (xs : List (Int × Int)) : (us.map Prod.fst).set k u = (us.set k (u, xs)).map Prod.fst := by rw [List.map_set]
theorem Made.stored {W w : World} {gb hb m c k : Nat} {x1 x2 v1 u : Value} {zs : List Int} {us : List (Value × List (Int × Int))} {xs : List (Int × Int)} (h : Made W gb w x1 x2 v1 zs (.slice (some ⟨hb, 0, none⟩) m c) (us.map Prod.fst) (us.set k (u, xs))) :
    Made W gb (w.setCell ⟨hb, k, none⟩ u) x1 x2 v1 zs (.slice (some ⟨hb, 0, none⟩) m c) ((us.set k (u, xs)).map Prod.fst) (us.set k (u, xs)) := by
  have := h.store k u
  rwa [hdr_set us k u xs] at this
theorem Made.rowAt {W w : World} {gb n v : Nat} {x1 x2 v1 v2 : Value} {zs : List Int} {us : List (Value × List (Int × Int))} {R : Nat → List (Int × Int)} (h : Made W gb w x1 x2 v1 zs v2 (us.map Prod.fst) us) (hR : RowsR n R us) (hv : v < n) {xs : List (Int × Int)} (hx : R v = xs) :
    ∃ a c, us[v]? = some (.slice a xs.length c, xs) ∧ (us.map Prod.fst)[v]? = some (.slice a xs.length c) := by
  subst hx
  obtain ⟨u, hu⟩ := hR.at hv
  obtain ⟨a, c, e, _⟩ := own_slice (show w.ownsRow W.heap.size 41 2 u (R v).length (linkVs (R v)) from h.lnk (List.mem_of_getElem? hu))
  subst e
  exact ⟨a, c, hu, by rw [List.getElem?_map, hu]; rfl⟩
theorem Made.rowX {W w : World} {gb n k : Nat} {x1 x2 v1 v2 : Value} {zs : List Int} {us : List (Value × List (Int × Int))} {R : Nat → List (Int × Int)} {xs : List (Int × Int)} (h : Made W gb w x1 x2 v1 zs v2 (us.map Prod.fst) us) (hR : RowsR n (upRx R k xs) us) (hv : k < n) :
    ∃ a c, us[k]? = some (.slice a xs.length c, xs) ∧ (us.map Prod.fst)[k]? = some (.slice a xs.length c) := h.rowAt hR hv (by simp [upRx])
theorem RowsR.put {n : Nat} {R : Nat → List (Int × Int)} {us : List (Value × List (Int × Int))} {k : Nat} (h : RowsR n (upR R k) us) (u : Value) {xs : List (Int × Int)} (hx : xs = R k) : RowsR n (upR R (k + 1)) (us.set k (u, xs)) :=
  h.set (by simp [upR, hx]) (fun v hv _ => by
    unfold upR
    by_cases hlt : v < k
    · rw [if_pos hlt, if_pos (by omega)]
    · rw [if_neg hlt, if_neg (by omega)])
theorem RowsR.congr {n : Nat} {R R' : Nat → List (Int × Int)} {us : List (Value × List (Int × Int))} (h : RowsR n R us) (e : ∀ v, v < n → R' v = R v) : RowsR n R' us :=
  ⟨h.1, fun v hv => by rw [h.2 v hv, e v hv]⟩
end Go.Proofs.Ytfbbkiibhdgojaa
