/- What slices.DeleteFunc does with a row of links of which one leads to a node: what Cut calls. -/
import Derived.Test.YtfbbkiibhdgojaaClone
import Derived.Test.YtfbbkiibhdgojaaGraph5
import Derived.LoopN
namespace Go.Proofs.Ytfbbkiibhdgojaa
open Go.RowKit

/-! ### A row of the call's own that shrinks -/
theorem own_shrink {w : World} {B : Nat} {e : TypeId} {s g n m cap : Nat} {xs : List Value} (h : w.ownsRow B e s (.slice (some ⟨g, 0, none⟩) n cap) n xs) (hm : m ≤ n) : w.ownsRow B e s (.slice (some ⟨g, 0, none⟩) m cap) m (xs.take (m * s)) := by
  obtain ⟨hl, h⟩ := h
  rcases h with ⟨h1, _⟩ | ⟨g', cap', cur, h1, h2, h3, h4, h5, h6, h7⟩
  · cases h1
  · injection h1 with e1 e2 e3
    injection e1 with e1
    injection e1 with e1
    subst e1 e3
    have hms : m * s ≤ n * s := Nat.mul_le_mul_right s hm
    refine ⟨by rw [List.length_take, hl]; omega, .inr ⟨g, cap, cur, rfl, h2, h3, by omega, h5, h6, ?_⟩⟩
    rw [← h7, List.take_take]
    congr 1
    omega
theorem linkVs_set (ys : List (Int × Int)) (k : Nat) (q : Int × Int) : ((linkVs ys).set (k * 2) (.int .i64 q.1)).set (k * 2 + 1) (.int .i64 q.2) = linkVs (ys.set k q) := by
  induction ys generalizing k with
  | nil => simp [linkVs]
  | cons y ys ih =>
    cases k with
    | zero => simp [linkVs]
    | succ k =>
      have e : linkVs (y :: ys) = .int .i64 y.1 :: .int .i64 y.2 :: linkVs ys := rfl
      have e2 : linkVs (y :: ys.set k q) = .int .i64 y.1 :: .int .i64 y.2 :: linkVs (ys.set k q) := rfl
      rw [e, List.set_cons_succ, e2, ← ih k, show (k + 1) * 2 = k * 2 + 1 + 1 by omega, List.set_cons_succ, List.set_cons_succ, List.set_cons_succ, List.set_cons_succ]
theorem Made.storeL {W w : World} {gb i g n cap k : Nat} {x1 x2 v1 v2 : Value} {zs : List Int} {hs : List Value} {us : List (Value × List (Int × Int))} {ys : List (Int × Int)} (h : Made W gb w x1 x2 v1 zs v2 hs us) (hi : us[i]? = some (.slice (some ⟨g, 0, none⟩) n cap, ys)) (hn : n = ys.length) (q : Int × Int) :
    Made W gb ((w.setCell ⟨g, k * 2, none⟩ (.int .i64 q.1)).setCell ⟨g, k * 2 + 1, none⟩ (.int .i64 q.2)) x1 x2 v1 zs v2 hs (us.set i (.slice (some ⟨g, 0, none⟩) n cap, ys.set k q)) := by
  subst hn
  obtain ⟨hlt, hu⟩ := List.getElem?_eq_some_iff.1 hi
  have ho : w.ownsRow W.heap.size 41 2 (.slice (some ⟨g, 0, none⟩) ys.length cap) ys.length (linkVs ys) := h.lnk (u := (.slice (some ⟨g, 0, none⟩) ys.length cap, ys)) (List.mem_of_getElem? hi)
  obtain ⟨o1, g1⟩ := World.ownsRow.stored ho (k * 2) (.int .i64 q.1)
  obtain ⟨o2, g2⟩ := World.ownsRow.stored o1 (k * 2 + 1) (.int .i64 q.2)
  refine h.turn hlt _ (by rw [hu]; exact g1.trans g2) ?_ (fun g' e => .inl (by rw [hu]; exact e))
  unfold LinkOwn Rw.Held lnkR
  rw [linkVs_set] at o2
  simpa using o2
theorem Made.shrink {W w : World} {gb i g n m cap : Nat} {x1 x2 v1 v2 : Value} {zs : List Int} {hs : List Value} {us : List (Value × List (Int × Int))} {ys zs' : List (Int × Int)} (h : Made W gb w x1 x2 v1 zs v2 hs us) (hi : us[i]? = some (.slice (some ⟨g, 0, none⟩) n cap, ys)) (hn : n = ys.length) (hm : m ≤ n) (hz : zs'.length = m) (ht : (linkVs ys).take (m * 2) = linkVs zs') :
    Made W gb w x1 x2 v1 zs v2 hs (us.set i (.slice (some ⟨g, 0, none⟩) m cap, zs')) := by
  subst hn
  obtain ⟨hlt, hu⟩ := List.getElem?_eq_some_iff.1 hi
  have ho : w.ownsRow W.heap.size 41 2 (.slice (some ⟨g, 0, none⟩) ys.length cap) ys.length (linkVs ys) := h.lnk (u := (.slice (some ⟨g, 0, none⟩) ys.length cap, ys)) (List.mem_of_getElem? hi)
  have o2 := own_shrink ho hm
  rw [ht] at o2
  refine h.turn hlt _ (by rw [hu]; exact ⟨rfl, rfl, rfl, Nat.le_refl _, fun _ _ _ => rfl⟩) ?_ (fun g' e => .inl (by rw [hu]; exact e))
  unfold LinkOwn Rw.Held lnkR
  rw [hz]
  exact o2
/-- a link of a row of the call's own: its cells -/
theorem Made.linkAt {W w : World} {gb i g n cap : Nat} {x1 x2 v1 v2 : Value} {zs : List Int} {hs : List Value} {us : List (Value × List (Int × Int))} {ys : List (Int × Int)} (h : Made W gb w x1 x2 v1 zs v2 hs us) (hi : us[i]? = some (.slice (some ⟨g, 0, none⟩) n cap, ys)) (hn : n = ys.length) {k : Nat} (hk : k < n) :
    w.cell? ⟨g, k * 2, none⟩ = some (.int .i64 (toA ys k)) ∧ w.cell? ⟨g, k * 2 + 1, none⟩ = some (.int .i64 (wtA ys k)) ∧ w.frozen? ⟨g, k * 2, none⟩ = false ∧ w.frozen? ⟨g, k * 2 + 1, none⟩ = false := by
  subst hn
  have ho : w.ownsRow W.heap.size 41 2 (.slice (some ⟨g, 0, none⟩) ys.length cap) ys.length (linkVs ys) := h.lnk (u := (.slice (some ⟨g, 0, none⟩) ys.length cap, ys)) (List.mem_of_getElem? hi)
  obtain ⟨e1, e2⟩ := linkVs_at hk
  have c1 := own_cell ho e1
  have c2 := own_cell ho e2
  rw [Nat.zero_add] at c1 c2
  exact ⟨c1, c2, World.ownsRow.frozenAt ho _, World.ownsRow.frozenAt ho _⟩
theorem Made.rowView {W w : World} {gb i g n cap : Nat} {x1 x2 v1 v2 : Value} {zs : List Int} {hs : List Value} {us : List (Value × List (Int × Int))} {ys : List (Int × Int)} (h : Made W gb w x1 x2 v1 zs v2 hs us) (hi : us[i]? = some (.slice (some ⟨g, 0, none⟩) n cap, ys)) (hn : n = ys.length) (hf : ∀ x ∈ ys, I64 x.1 ∧ I64 x.2) : LinksAt w (some ⟨g, 0, none⟩) ys := by
  subst hn
  obtain ⟨la, lc, e, hL⟩ := link_own (u := (.slice (some ⟨g, 0, none⟩) ys.length cap, ys)) (h.lnk (List.mem_of_getElem? hi)) hf
  injection e with e
  rw [e]
  exact hL
/-- the row while what stands behind p moves ahead: as far as j -/
def ysR (xs : List (Int × Int)) (p j : Nat) : List (Int × Int) := (List.range xs.length).map fun k => if p ≤ k ∧ k + 1 < j then xs.getD (k + 1) (0, 0) else xs.getD k (0, 0)
theorem ysR_len (xs : List (Int × Int)) (p j : Nat) : (ysR xs p j).length = xs.length := by simp [ysR]
theorem ysR_get {xs : List (Int × Int)} {p j k : Nat} (h : k < xs.length) : (ysR xs p j)[k]? = some (if p ≤ k ∧ k + 1 < j then xs.getD (k + 1) (0, 0) else xs.getD k (0, 0)) := by
  unfold ysR
  rw [List.getElem?_map, List.getElem?_range h]
  rfl
theorem getD_get {xs : List (Int × Int)} {k : Nat} (h : k < xs.length) : some (xs.getD k (0, 0)) = xs[k]? := by simp [List.getD, h]
theorem ysR_start (xs : List (Int × Int)) (p : Nat) : ysR xs p (p + 1) = xs := by
  refine List.ext_getElem? fun k => ?_
  by_cases h : k < xs.length
  · rw [ysR_get h, if_neg (by omega), getD_get h]
  · rw [List.getElem?_eq_none (by rw [ysR_len]; omega), List.getElem?_eq_none (by omega)]
theorem ysR_at {xs : List (Int × Int)} {p j : Nat} (hj : j < xs.length) : toA (ysR xs p j) j = toA xs j ∧ wtA (ysR xs p j) j = wtA xs j := by
  have e : (ysR xs p j).getD j (0, 0) = xs.getD j (0, 0) := by
    rw [List.getD_eq_getElem?_getD, ysR_get hj, if_neg (by omega)]
    rfl
  exact ⟨congrArg Prod.fst e, congrArg Prod.snd e⟩
theorem ysR_step {xs : List (Int × Int)} {p j : Nat} (hp : p < j) : (ysR xs p j).set (j - 1) (toA xs j, wtA xs j) = ysR xs p (j + 1) := by
  refine List.ext_getElem? fun k => ?_
  by_cases h : k < xs.length
  · by_cases e : k = j - 1
    · subst e
      rw [List.getElem?_set_self (by rw [ysR_len]; exact h), ysR_get h, if_pos (by omega), show j - 1 + 1 = j by omega]
      rfl
    · rw [List.getElem?_set_ne (by omega), ysR_get h, ysR_get h]
      by_cases h2 : p ≤ k ∧ k + 1 < j
      · rw [if_pos h2, if_pos (by omega)]
      · rw [if_neg h2, if_neg (by omega)]
  · rw [List.getElem?_eq_none (by rw [List.length_set, ysR_len]; omega), List.getElem?_eq_none (by rw [ysR_len]; omega)]
/-- the row without its p-th link -/
def delR (xs : List (Int × Int)) (p : Nat) : List (Int × Int) := xs.take p ++ xs.drop (p + 1)
theorem delR_len {xs : List (Int × Int)} {p : Nat} (hp : p < xs.length) : (delR xs p).length = xs.length - 1 := by simp [delR]; omega
theorem linkVs_take (ys : List (Int × Int)) (m : Nat) : (linkVs ys).take (m * 2) = linkVs (ys.take m) := by
  induction ys generalizing m with
  | nil => simp [linkVs]
  | cons y ys ih =>
    cases m with
    | zero => simp [linkVs]
    | succ m =>
      have e : linkVs (y :: ys) = .int .i64 y.1 :: .int .i64 y.2 :: linkVs ys := rfl
      rw [e, show (m + 1) * 2 = m * 2 + 1 + 1 by omega, List.take_succ_cons, List.take_succ_cons, ih m]
      rfl
theorem ysR_end {xs : List (Int × Int)} {p : Nat} (hp : p < xs.length) (q : Int × Int) : ((ysR xs p xs.length).set (xs.length - 1) q).take (xs.length - 1) = delR xs p := by
  rw [List.take_set_of_le (Nat.le_refl _)]
  refine List.ext_getElem? fun k => ?_
  unfold delR
  by_cases h : k < xs.length - 1
  · rw [List.getElem?_take_of_lt h, ysR_get (by omega)]
    by_cases e : p ≤ k
    · rw [if_pos (by omega), getD_get (by omega), List.getElem?_append_right (by simp; omega)]
      simp only [List.length_take, List.getElem?_drop]
      rw [show p + 1 + (k - min p xs.length) = k + 1 by omega]
    · rw [if_neg (by omega), getD_get (by omega), List.getElem?_append_left (by simp; omega), List.getElem?_take_of_lt (by omega)]
  · rw [List.getElem?_eq_none (by simp [ysR_len]; omega), List.getElem?_eq_none (by simp; omega)]
theorem clear_link {w : World} {g o c : Nat} {x y : Value} (ty : TypeId) (h0 : w.cell? ⟨g, o, none⟩ = some x) (h1 : w.cell? ⟨g, o + 1, none⟩ = some y) (f0 : w.frozen? ⟨g, o, none⟩ = false) (f1 : w.frozen? ⟨g, o + 1, none⟩ = false) :
    (Builtin.clear_ #[38] ty #[.slice (some ⟨g, o, none⟩) 1 c]).run Try.prog w = .ok (.tuple #[]) ((w.setCell ⟨g, o, none⟩ (.int .i64 0)).setCell ⟨g, o + 1, none⟩ (.int .i64 0)) := by
  have e1 : (Builtin.zeroCells #[Value.int .i64 0, Value.int .i64 0] 1).toList = [.int .i64 0, .int .i64 0] := by kernel_rfl
  have h1' : (w.setCell ⟨g, o, none⟩ (.int .i64 0)).cell? ⟨g, o + 1, none⟩ = some y := by rw [set_other (by simp)]; exact h1
  have f1' : (w.setCell ⟨g, o, none⟩ (.int .i64 0)).frozen? ⟨g, o + 1, none⟩ = false := by rw [World.frozen?_setCell]; exact f1
  simp [Builtin.clear_, run_underlying Try.underlying38, e1, storeCells, add_none, h0, h1', f0, f1', go_sem, Result.andThen]
end Go.Proofs.Ytfbbkiibhdgojaa
