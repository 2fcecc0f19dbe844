/- Append of a list of terms to a list of one's own; a part of a list. -/
import Derived.Test.YtbcndmlhbdanaaaTermR8
namespace Go.Proofs.Ytbcndmlhbdanaaa
open Go.RowKit

theorem linkVs_append (ys xs : List (Int × Int)) : linkVs (ys ++ xs) = linkVs ys ++ linkVs xs := by simp [linkVs]
section
variable {ops : Array Oper} {o : Oper} {a : Act} {w W : World} {K : Act → World → Prop} {Q : Exit → Act → World → Prop} {E : Prop} {rest : List Oper}
/-- a list that is not empty is appended to a list of one's own -/
theorem run_appT (ty : TypeId) (B : Nat) (v : Value) (ys : List (Int × Int)) (hown : OwnT B w v ys) (la : Option Addr) (lc : Nat) (xs : List (Int × Int)) (h : LinksAt w la xs) (h0 : 0 < xs.length) (hl : ys.length + xs.length ≤ 1000000) (hB : B ≤ w.heap.size) :
    ∃ a' c' w', (Builtin.append_ #[22, 22] ty #[v, .slice la xs.length lc]).run Try.prog w = .ok (.slice a' (ys.length + xs.length) c') w' ∧ OwnT B w' (.slice a' (ys.length + xs.length) c') (ys ++ xs) ∧ w.grownBy w' v.ownBlock := by
  obtain ⟨i, hi, hz, hz1, hz2⟩ := info_parts infoTerm
  obtain ⟨b, off, rfl, _⟩ := h.row h0
  obtain ⟨v', w', hr, h2, h3, _⟩ := run_append_own (P := Try.prog) w B 22 ty 41 i (.agg #[.int .i64 0, .int .i64 0]) 2 16 Try.underlying22 hi hz hz1 hz2 rfl (by decide) v ys.length (linkVs ys) hown ⟨b, off, none⟩ xs.length lc (linkVs xs) (linkVs_len xs) (links_cells h) linkVs_one (by unfold maxLen; omega) (by omega) hB
  rw [← linkVs_append] at h2
  have h2' : OwnT B w' v' (ys ++ xs) := by
    unfold OwnT
    rw [List.length_append]
    exact h2
  obtain ⟨a', c', e, _⟩ := h2'.shape
  rw [List.length_append] at e
  subst e
  exact ⟨a', c', w', hr, h2', h3⟩
theorem wpList_appT (hgd : o.guard = none) (s x : Operand) (ho : o.op = .call { callee := .builtin .append, args := #[s, x], argTypes := #[22, 22] })
    (B : Nat) (v : Value) (ys : List (Int × Int)) (n : Nat) (hn : n = ys.length) (hown : OwnT B w v ys) (la : Option Addr) (lc : Nat) (xs : List (Int × Int)) (m : Nat) (hm : m = xs.length) (hs' : a.eval s = v) (hx : a.eval x = .slice la m lc) (h : LinksAt w la xs) (h0 : 0 < xs.length) (hl : ys.length + xs.length ≤ 1000000) (hB : B ≤ w.heap.size)
    (hK : ∀ a' c' w', OwnT B w' (.slice a' (n + m) c') (ys ++ xs) → w.grownBy w' v.ownBlock → wpList Try.prog ops Q rest (a.put o.dst (.slice a' (n + m) c')) w') :
    wpList Try.prog ops Q (o :: rest) a w := by
  subst hn hm
  refine wpList_plain hgd fun K hK' => ?_
  obtain ⟨a', c', w', hr, h2, h3⟩ := run_appT o.type B v ys hown la lc xs h h0 hl hB
  unfold Oper.wp execOp
  simp only [ho, resolve, invoke, builtin, Sem.run_bind, Sem.run_pure, Result.andThen_ok, List.map_toArray, List.map_cons, List.map_nil, hs', hx, hr]
  exact hK' _ _ (hK a' c' w' h2 h3)
theorem step_appT (hgd : o.guard = none) (s x : Operand) (ho : o.op = .call { callee := .builtin .append, args := #[s, x], argTypes := #[22, 22] })
    (B : Nat) (v : Value) (ys : List (Int × Int)) (n : Nat) (hn : n = ys.length) (hown : OwnT B w v ys) (la : Option Addr) (lc : Nat) (xs : List (Int × Int)) (m : Nat) (hm : m = xs.length) (hs' : a.eval s = v) (hx : a.eval x = .slice la m lc) (h : LinksAt w la xs) (h0 : 0 < xs.length) (hl : ys.length + xs.length ≤ 1000000) (hB : B ≤ w.heap.size)
    (hK : ∀ a' c' w', OwnT B w' (.slice a' (n + m) c') (ys ++ xs) → w.grownBy w' v.ownBlock → K (a.put o.dst (.slice a' (n + m) c')) w') :
    if Region.wanted o (yielded ops a.tmps) = true then Oper.wp Try.prog o a w K Q else E := by
  subst hn hm
  have hw : Region.wanted o (yielded ops a.tmps) = true := by simp [Region.wanted, hgd]
  rw [if_pos hw]
  obtain ⟨a', c', w', hr, h2, h3⟩ := run_appT o.type B v ys hown la lc xs h h0 hl hB
  unfold Oper.wp execOp
  simp only [ho, resolve, invoke, builtin, Sem.run_bind, Sem.run_pure, Result.andThen_ok, List.map_toArray, List.map_cons, List.map_nil, hs', hx, hr]
  exact hK a' c' w' h2 h3
end
/-- a list of one's own that lies in a new block -/
theorem OwnT.lit (w : World) (B : Nat) (xs : List (Int × Int)) (cs : Array Value) (n : Nat) (hn : n = xs.length) (hc : cs.toList = linkVs xs) (hB : B ≤ w.heap.size) (hm : xs.length ≤ maxLen) : OwnT B (w.alloc (.cells cs 41)) (.slice (some ⟨w.heap.size, 0, none⟩) n n) xs := by
  subst hn
  have hs : cs.size = xs.length * 2 := by rw [← Array.length_toList, hc, linkVs_len]
  have := World.ownsRow_lit (base := B) (e := 41) (size := 2) w cs xs.length hB hm hs
  rw [hc] at this
  exact this
/-- a part of a list -/
theorem LinksAt.part {w : World} {b o : Nat} {xs : List (Int × Int)} (h : LinksAt w (some ⟨b, o, none⟩) xs) {p m : Nat} (hp : p + m ≤ xs.length) : LinksAt w (some ⟨b, o + p * 2, none⟩) ((xs.drop p).take m) := by
  have hlen : ((xs.drop p).take m).length = m := by rw [List.length_take, List.length_drop]; omega
  refine ⟨by have := h.size; omega, fun h0 => ?_, fun x hx => h.fits x (List.mem_of_mem_drop (List.mem_of_mem_take hx))⟩
  obtain ⟨b', o', e, hb, hc⟩ := h.row (by omega)
  injection e with e
  injection e with e1 e2
  subst e1 e2
  refine ⟨b, o + p * 2, rfl, hb, fun i hi => ?_⟩
  rw [hlen] at hi
  obtain ⟨c0, c1⟩ := hc (p + i) (by omega)
  have e : ((xs.drop p).take m).getD i (0, 0) = xs.getD (p + i) (0, 0) := by
    rw [List.getD_eq_getElem?_getD, List.getD_eq_getElem?_getD, List.getElem?_take_of_lt hi, List.getElem?_drop]
  unfold toA at c0
  unfold wtA at c1
  unfold toA wtA
  rw [e, show o + p * 2 + i * 2 = o + (p + i) * 2 by omega]
  exact ⟨c0, c1⟩
end Go.Proofs.Ytbcndmlhbdanaaa
