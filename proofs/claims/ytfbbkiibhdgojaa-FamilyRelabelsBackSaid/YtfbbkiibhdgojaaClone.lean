/- Copies that the program makes: slices.Clone of numbers and of links, copies of rows. -/
import Derived.Test.YtfbbkiibhdgojaaCopy0
import Derived.Test.YtfbbkiibhdgojaaKeep2
namespace Go.Proofs.Ytfbbkiibhdgojaa
open Go.RowKit

section
variable {P : Program} {ops : Array Oper} {o : Oper} {a : Act} {w : World} {Q : Exit → Act → World → Prop} {rest : List Oper}
/-- append to an empty row of the call's own -/
theorem wpList_clone (hgd : o.guard = none) (s x : Operand) (t : TypeId) (ho : o.op = .call { callee := .builtin .append, args := #[s, x], argTypes := #[t, t] })
    (base : Nat) (e : TypeId) (i : TypeInfo) (z : Value) (size bytes : Nat) (ht : P.underlying t = some (.slice e)) (hi : P.info? e = some i) (hz : i.zero = some z) (hsize : i.size = size) (hby : i.bytes = bytes) (hzs : z.cells.size = size) (hsz : 0 < size)
    (g : Nat) (hs : a.eval s = .slice (some ⟨g, 0, none⟩) 0 0) (hown : w.ownsRow base e size (.slice (some ⟨g, 0, none⟩) 0 0) 0 []) (ad : Addr) (m c : Nat) (hx : a.eval x = .slice (some ad) m c) (news : List Value) (hl : news.length = m * size)
    (hnews : ∀ j u, news[j]? = some u → w.cell? (ad.add j) = some u) (h1 : ∀ u ∈ news, u.oneCell' = true) (h63 : m ≤ 1000000) (hb : bytes ≤ 100) (hbase : base ≤ w.heap.size)
    (hK : ∀ a' c' w', w'.ownsRow base e size (.slice a' m c') m news → w.grownBy w' (some g) → wpList P ops Q rest (a.put o.dst (.slice a' m c')) w') :
    wpList P ops Q (o :: rest) a w := by
  refine wpList_plain hgd fun K hK' => ?_
  have hbb : m * bytes ≤ 1000000 * 100 := Nat.mul_le_mul h63 hb
  obtain ⟨v', w', hr, h2, h3, _⟩ := run_append_own (P := P) w base t o.type e i z size bytes ht hi hz hsize hby hzs hsz (.slice (some ⟨g, 0, none⟩) 0 0) 0 [] hown ad m c news hl hnews h1 (by unfold maxLen; omega) (by rw [Nat.zero_add]; omega) hbase
  rw [Nat.zero_add, List.nil_append] at h2
  obtain ⟨a', c', e', _⟩ := own_slice h2
  subst e'
  unfold Oper.wp execOp
  simp only [ho, resolve, invoke, builtin, Sem.run_bind, Sem.run_pure, Result.andThen_ok, List.map_toArray, List.map_cons, List.map_nil, hs, hx, hr]
  exact hK' _ _ (hK a' c' w' h2 h3)
end

theorem nilI (w : World) (c : Nat) : (binOp BinOp.eql 22 (.slice none 0 c) (.slice none 0 0)).run Try.prog w = .ok (.bool true) w := by kernel_rfl
theorem notNilI (w : World) (ad : Addr) (m c : Nat) : (binOp BinOp.eql 22 (.slice (some ad) m c) (.slice none 0 0)).run Try.prog w = .ok (.bool false) w := by kernel_rfl
theorem nilL (w : World) (c : Nat) : (binOp BinOp.eql 38 (.slice none 0 c) (.slice none 0 0)).run Try.prog w = .ok (.bool true) w := by kernel_rfl
theorem notNilL (w : World) (ad : Addr) (m c : Nat) : (binOp BinOp.eql 38 (.slice (some ad) m c) (.slice none 0 0)).run Try.prog w = .ok (.bool false) w := by kernel_rfl
set_option maxHeartbeats 1000000 in
theorem cloneI_any (la : Option Addr) (lc : Nat) (zs : List Int) (m : Nat) (hm : m = zs.length) (w : World) (hI : IntsAt w la zs) (hl : m ≤ 1000000) :
    Calls Try.prog 22 #[.slice la m lc] w fun e w' => (∃ a' c', e = .returned (.slice a' m c') ∧ w'.ownsRow w.heap.size 3 1 (.slice a' m c') m (intsV zs)) ∧ Below w.heap.size w w' := by
  cases la with
  | none =>
    have h0 : m = 0 := by
      rcases Nat.eq_zero_or_pos m with h | h
      · exact h
      · obtain ⟨b, o, e, _⟩ := hI.row (by omega)
        cases e
    subst h0
    have hz : zs = [] := List.eq_nil_of_length_eq_zero hm.symm
    subst hz
    clear hI hm
    have q1 := nilI
    have q2 := notNilI
    go_enter Try.func22, Try.ntmps22
    go_wp2
    go_ret
    exact ⟨⟨none, 0, rfl, World.ownsRow_nil _ _ _ _⟩, Below.refl _ _⟩
  | some ad =>
    obtain ⟨i0, hi, hz0, hz1, hz2⟩ := info_parts info3
    have HI := Lib.hid hI
    have Hm := Lib.hid hm
    clear hI hm
    have hown : Hid ((w.alloc (.cells #[] 3)).ownsRow w.heap.size 3 1 (.slice (some ⟨w.heap.size, 0, none⟩) 0 0) 0 []) := Lib.hid (World.ownsRow_lit (base := w.heap.size) (e := 3) w #[] 0 (Nat.le_refl _) (Nat.zero_le _) rfl)
    have hnews : Hid (∀ j u, (intsV zs)[j]? = some u → (w.alloc (.cells #[] 3)).cell? (ad.add j) = some u) := Lib.hid (fun j u hj => by
      have hlt : 0 < zs.length := by
        have := (List.getElem?_eq_some_iff.1 hj).1
        simp [intsV] at this
        omega
      obtain ⟨b, off, e, _⟩ := HI.out.row hlt
      injection e with e
      subst e
      exact ints_cells (HI.out.below ((Below.refl _ _).alloc (Nat.le_refl _) _)) j u hj)
    have q1 := nilI
    have q2 := notNilI
    go_enter Try.func22, Try.ntmps22
    go_wp2_with (at_builtin; refine wpList_clone rfl (.tmp 5) (.tmp 6) 22 rfl w.heap.size 3 i0 (.int .i64 0) 1 8 Try.underlying22 hi hz0 hz1 hz2 rfl (by decide) w.heap.size rfl hown.out ad m lc rfl (intsV zs) (by simp [intsV, Hm.out]) hnews.out intsV_one hl (by decide) (by simp) ?_; intro a' c' w' h2 h3)
    go_ret
    exact ⟨⟨a', c', rfl, h2⟩, ((Below.refl _ _).alloc (Nat.le_refl _) _).grown h3 (by simp) (fun k e => by injection e with e; omega)⟩
set_option maxHeartbeats 1000000 in
theorem cloneL_any (la : Option Addr) (lc : Nat) (xs : List (Int × Int)) (m : Nat) (hm : m = xs.length) (w : World) (hL : LinksAt w la xs) (hl : m ≤ 1000000) :
    Calls Try.prog 35 #[.slice la m lc] w fun e w' => (∃ a' c', e = .returned (.slice a' m c') ∧ w'.ownsRow w.heap.size 41 2 (.slice a' m c') m (linkVs xs)) ∧ Below w.heap.size w w' := by
  cases la with
  | none =>
    have h0 : m = 0 := by
      rcases Nat.eq_zero_or_pos m with h | h
      · exact h
      · obtain ⟨b, o, e, _⟩ := hL.row (by omega)
        cases e
    subst h0
    have hz : xs = [] := List.eq_nil_of_length_eq_zero hm.symm
    subst hz
    clear hL hm
    have q1 := nilL
    have q2 := notNilL
    go_enter Try.func35, Try.ntmps35
    go_wp2
    go_ret
    exact ⟨⟨none, 0, rfl, World.ownsRow_nil _ _ _ _⟩, Below.refl _ _⟩
  | some ad =>
    obtain ⟨i0, hi, hz0, hz1, hz2⟩ := info_parts infoLnk
    have HL := Lib.hid hL
    have Hm := Lib.hid hm
    clear hL hm
    have hown : Hid ((w.alloc (.cells #[] 41)).ownsRow w.heap.size 41 2 (.slice (some ⟨w.heap.size, 0, none⟩) 0 0) 0 []) := Lib.hid (World.ownsRow_lit (base := w.heap.size) (e := 41) w #[] 0 (Nat.le_refl _) (Nat.zero_le _) rfl)
    have hnews : Hid (∀ j u, (linkVs xs)[j]? = some u → (w.alloc (.cells #[] 41)).cell? (ad.add j) = some u) := Lib.hid (fun j u hj => by
      have hlt : 0 < xs.length := by
        have := (List.getElem?_eq_some_iff.1 hj).1
        rw [linkVs_len] at this
        omega
      obtain ⟨b, off, e, _⟩ := HL.out.row hlt
      injection e with e
      subst e
      exact links_cells (HL.out.below ((Below.refl _ _).alloc (Nat.le_refl _) _)) j u hj)
    have q1 := nilL
    have q2 := notNilL
    go_enter Try.func35, Try.ntmps35
    go_wp2_with (at_builtin; refine wpList_clone rfl (.tmp 5) (.tmp 6) 38 rfl w.heap.size 41 i0 (.agg #[.int .i64 0, .int .i64 0]) 2 16 Try.underlying38 hi hz0 hz1 hz2 rfl (by decide) w.heap.size rfl hown.out ad m lc rfl (linkVs xs) (by rw [linkVs_len, Hm.out]) hnews.out linkVs_one hl (by decide) (by simp) ?_; intro a' c' w' h2 h3)
    go_ret
    exact ⟨⟨a', c', rfl, h2⟩, ((Below.refl _ _).alloc (Nat.le_refl _) _).grown h3 (by simp) (fun k e => by injection e with e; omega)⟩
end Go.Proofs.Ytfbbkiibhdgojaa
