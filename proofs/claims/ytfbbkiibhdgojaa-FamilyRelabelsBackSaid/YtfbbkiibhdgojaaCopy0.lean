/- Copies of rows: append to nil. -/
import Derived.Test.YtfbbkiibhdgojaaRefF0
namespace Go.Proofs.Ytfbbkiibhdgojaa
open Go.RowKit

section
variable {P : Program} {w : World}
theorem run_copy_none (t ty e : TypeId) (i : TypeInfo) (ht : P.underlying t = some (.slice e)) (hi : P.info? e = some i) (c : Nat) :
    (Builtin.append_ #[t, t] ty #[.slice none 0 0, .slice none 0 c]).run P w = .ok (.slice none 0 0) w := by
  simp [Builtin.append_, run_underlying ht, sizeOf, typeInfo, hi, Builtin.lenOf, Builtin.firstCells]
theorem run_copy (t ty e : TypeId) (i : TypeInfo) (z : Value) (size bytes : Nat) (ht : P.underlying t = some (.slice e)) (hi : P.info? e = some i) (hz : i.zero = some z) (hsize : i.size = size) (hby : i.bytes = bytes) (hzs : z.cells.size = size) (hsz : 0 < size)
    (a : Option Addr) (m c : Nat) (news : List Value) (hl : news.length = m * size) (hnews : ∀ ad, a = some ad → ∀ j u, news[j]? = some u → w.cell? (ad.add j) = some u) (hn : a = none → m = 0) (h1 : ∀ u ∈ news, u.oneCell' = true) (h63 : m ≤ 1000000) (hb : bytes ≤ 100) :
    ∃ v' w', (Builtin.append_ #[t, t] ty #[.slice none 0 0, .slice a m c]).run P w = .ok v' w' ∧ w'.ownsRow w.heap.size e size v' m news ∧ Below w.heap.size w w' := by
  cases a with
  | none =>
    have hm := hn rfl
    subst hm
    have : news = [] := List.eq_nil_of_length_eq_zero (by simpa using hl)
    subst this
    exact ⟨_, _, run_copy_none t ty e i ht hi c, World.ownsRow_nil _ _ _ _, Below.refl _ _⟩
  | some ad =>
    have hbb : m * bytes ≤ 1000000 * 100 := Nat.mul_le_mul h63 hb
    obtain ⟨v', w', hr, h2, h3, _⟩ := run_append_own (P := P) w w.heap.size t ty e i z size bytes ht hi hz hsize hby hzs hsz (.slice none 0 0) 0 [] (World.ownsRow_nil _ _ _ _) ad m c news hl (hnews ad rfl) h1 (by unfold maxLen; omega) (by rw [Nat.zero_add]; omega) (Nat.le_refl _)
    rw [Nat.zero_add, List.nil_append] at h2
    exact ⟨v', w', hr, h2, ⟨h3.os, h3.tape, h3.output, h3.size, fun k hk => h3.block k hk (by simp [Value.ownBlock])⟩⟩
end

section
variable {ops : Array Oper} {o : Oper} {a : Act} {w W : World} {K : Act → World → Prop} {Q : Exit → Act → World → Prop} {E : Prop} {rest : List Oper}
  {gb : Nat} {x1 x2 v1 v2 : Value} {zs : List Int} {hs : List Value} {us : List (Value × List (Int × Int))}
theorem links_cells {b off : Nat} {xs : List (Int × Int)} (h : LinksAt w (some ⟨b, off, none⟩) xs) : ∀ j u, (linkVs xs)[j]? = some u → w.cell? ((⟨b, off, none⟩ : Addr).add j) = some u := by
  intro j u hj
  have hlt : j < xs.length * 2 := by
    rw [← linkVs_len]
    exact (List.getElem?_eq_some_iff.1 hj).1
  obtain ⟨b', o', e, _, hc⟩ := h.row (by omega)
  injection e with e
  injection e with e1 e2
  subst e1 e2
  have hi : j / 2 < xs.length := by omega
  obtain ⟨c0, c1⟩ := hc (j / 2) hi
  obtain ⟨l0, l1⟩ := linkVs_at hi
  rw [add_none]
  rcases Nat.mod_two_eq_zero_or_one j with h2 | h2
  · have e : j / 2 * 2 = j := by omega
    rw [e] at c0 l0
    rw [hj] at l0
    rw [c0, ← l0]
  · have e : j / 2 * 2 + 1 = j := by omega
    rw [Nat.add_assoc, e] at c1
    rw [e] at l1
    rw [hj] at l1
    rw [c1, ← l1]
theorem ints_cells {b off : Nat} {xs : List Int} (h : IntsAt w (some ⟨b, off, none⟩) xs) : ∀ j u, (intsV xs)[j]? = some u → w.cell? ((⟨b, off, none⟩ : Addr).add j) = some u := by
  intro j u hj
  have hlt : j < xs.length := by
    have := (List.getElem?_eq_some_iff.1 hj).1
    simpa [intsV] using this
  obtain ⟨b', o', e, _, hc⟩ := h.row (by omega)
  injection e with e
  injection e with e1 e2
  subst e1 e2
  rw [add_none, hc j hlt, ← hj]
  simp [intsV, idA, List.getD, List.getElem?_eq_getElem hlt]
theorem linkVs_one {xs : List (Int × Int)} : ∀ u ∈ linkVs xs, u.oneCell' = true := by
  intro u hu
  obtain ⟨p, _, hp⟩ := List.mem_flatMap.1 hu
  simp at hp
  rcases hp with rfl | rfl <;> rfl
theorem intsV_one {xs : List Int} : ∀ u ∈ intsV xs, u.oneCell' = true := by
  intro u hu
  obtain ⟨p, _, rfl⟩ := List.mem_map.1 hu
  rfl
/-- a copy of a row of links, at a step of a region that draws its order -/
theorem step_copyL (hgd : o.guard = none) (s x : Operand) (ho : o.op = .call { callee := .builtin .append, args := #[s, x], argTypes := #[38, 38] })
    (la : Option Addr) (lc : Nat) (xs : List (Int × Int)) (hs' : a.eval s = .slice none 0 0) (hx : a.eval x = .slice la xs.length lc) (h : LinksAt w la xs) (hl : xs.length ≤ 1000000)
    (hK : ∀ a' c' w', w'.ownsRow w.heap.size 41 2 (.slice a' xs.length c') xs.length (linkVs xs) → Below w.heap.size w w' → K (a.put o.dst (.slice a' xs.length c')) w') :
    if Region.wanted o (yielded ops a.tmps) = true then Oper.wp Try.prog o a w K Q else E := by
  obtain ⟨i, hi, hz, hz1, hz2⟩ := info_parts infoLnk
  have hw : Region.wanted o (yielded ops a.tmps) = true := by simp [Region.wanted, hgd]
  rw [if_pos hw]
  obtain ⟨v', w', hr, h2, h3⟩ := run_copy (P := Try.prog) (w := w) 38 o.type 41 i (.agg #[.int .i64 0, .int .i64 0]) 2 16 Try.underlying38 hi hz hz1 hz2 rfl (by decide) la xs.length lc (linkVs xs) (linkVs_len xs) (fun ad e => by
    subst e
    intro j u hj
    have hlt : 0 < xs.length := by
      have := (List.getElem?_eq_some_iff.1 hj).1
      rw [linkVs_len] at this
      omega
    obtain ⟨b, off, e, _⟩ := h.row hlt
    injection e with e
    subst e
    exact links_cells h j u hj) (fun e => by
    rcases Nat.eq_zero_or_pos xs.length with h0 | h0
    · exact h0
    · obtain ⟨b, off, e', _⟩ := h.row h0
      rw [e] at e'
      cases e') linkVs_one hl (by decide)
  obtain ⟨a', c', e, _⟩ := own_slice h2
  subst e
  unfold Oper.wp execOp
  simp only [ho, resolve, invoke, builtin, Sem.run_bind, Sem.run_pure, Result.andThen_ok, List.map_toArray, List.map_cons, List.map_nil, hs', hx, hr]
  exact hK a' c' w' h2 h3
/-- a copy of a row of numbers, at the list of a plain region's operations -/
theorem wpList_copyI (hgd : o.guard = none) (s x : Operand) (ho : o.op = .call { callee := .builtin .append, args := #[s, x], argTypes := #[22, 22] })
    (la : Option Addr) (lc : Nat) (xs : List Int) (m : Nat) (hm : m = xs.length) (hs' : a.eval s = .slice none 0 0) (hx : a.eval x = .slice la m lc) (h : IntsAt w la xs) (hl : xs.length ≤ 1000000)
    (hK : ∀ a' c' w', w'.ownsRow w.heap.size 3 1 (.slice a' m c') xs.length (intsV xs) → Below w.heap.size w w' → wpList Try.prog ops Q rest (a.put o.dst (.slice a' m c')) w') :
    wpList Try.prog ops Q (o :: rest) a w := by
  subst hm
  obtain ⟨i, hi, hz, hz1, hz2⟩ := info_parts info3
  refine wpList_plain hgd fun K hK' => ?_
  obtain ⟨v', w', hr, h2, h3⟩ := run_copy (P := Try.prog) (w := w) 22 o.type 3 i (.int .i64 0) 1 8 Try.underlying22 hi hz hz1 hz2 rfl (by decide) la xs.length lc (intsV xs) (by simp [intsV]) (fun ad e => by
    subst e
    intro j u hj
    have hlt : 0 < xs.length := by
      have := (List.getElem?_eq_some_iff.1 hj).1
      simp [intsV] at this
      omega
    obtain ⟨b, off, e, _⟩ := h.row hlt
    injection e with e
    subst e
    exact ints_cells h j u hj) (fun e => by
    rcases Nat.eq_zero_or_pos xs.length with h0 | h0
    · exact h0
    · obtain ⟨b, off, e', _⟩ := h.row h0
      rw [e] at e'
      cases e') intsV_one hl (by decide)
  obtain ⟨a', c', e, _⟩ := own_slice h2
  subst e
  unfold Oper.wp execOp
  simp only [ho, resolve, invoke, builtin, Sem.run_bind, Sem.run_pure, Result.andThen_ok, List.map_toArray, List.map_cons, List.map_nil, hs', hx, hr]
  exact hK' _ _ (hK a' c' w' h2 h3)
/-- a header is appended, at a step of a region that draws its order -/
theorem step_hdr (hgd : o.guard = none) (s x : Operand) (ho : o.op = .call { callee := .builtin .append, args := #[s, x], argTypes := #[23, 23] })
    (nb : Nat) (u : Value) (hs' : a.eval s = v2) (hx : a.eval x = .slice (some ⟨nb, 0, none⟩) 1 1) (h : Made W gb w x1 x2 v1 zs v2 hs us) (h0 : w.cell? ⟨nb, 0, none⟩ = some u) (hu : u.oneCell' = true) (h63 : hs.length + 1 ≤ 1000000)
    (hK : ∀ g cap w', Made W gb w' x1 x2 v1 zs (.slice (some ⟨g, 0, none⟩) (hs.length + 1) cap) (hs ++ [u]) us → K (a.put o.dst (.slice (some ⟨g, 0, none⟩) (hs.length + 1) cap)) w') :
    if Region.wanted o (yielded ops a.tmps) = true then Oper.wp Try.prog o a w K Q else E := by
  obtain ⟨i, hi, hz, hz1, hz2⟩ := info_parts infoHdr
  exact step_append_lies w hgd s x 23 ho W.heap.size 38 i (.slice none 0 0) 1 24 Try.underlying23 hi hz hz1 hz2 rfl (by decide) v2 hs.length hs hs' h.hdr ⟨nb, 0, none⟩ 1 1 [u] hx rfl (fun j v hj => by
      match j, hj with
      | 0, hj =>
        simp at hj
        subst hj
        rw [add_none]
        exact h0) (fun v hv => by simp at hv; subst hv; exact hu) (by decide) (by unfold maxLen; omega) (by omega) h.fr.size w.heap.size rfl fun g cap w' h1 h2 h3 _ => hK g cap w' (h.app2 rfl h1 h2 h3)
/-- one row of links more, made behind w -/
theorem Made.addNew {w' : World} {u : Value} {xs : List (Int × Int)} (h : Made W gb w x1 x2 v1 zs v2 hs us) (hb : Below w.heap.size w w') (ho : w'.ownsRow w.heap.size 41 2 u xs.length (linkVs xs)) : Made W gb w' x1 x2 v1 zs v2 hs (us ++ [(u, xs)]) := by
  refine (h.below hb).add (Go.Joins.ownsRow_le ho h.fr.size) (fun e => ?_) (fun r hr => ?_)
  · have := (World.ownsRow.lt ho _ e).1
    have := h.gt
    omega
  · unfold apartV
    cases hr' : r.v.ownBlock with
    | none => exact .inl rfl
    | some k =>
      refine .inr fun e => ?_
      have h1 := (World.ownsRow.lt (h.rows.own r hr) k hr').2
      have h2 := (World.ownsRow.lt ho k e.symm).1
      omega
end
end Go.Proofs.Ytfbbkiibhdgojaa
