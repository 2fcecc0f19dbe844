/- What LightExpr answers. -/
import Derived.Test.YtdbahiepihkagaaGreatDoorTermMost
import Derived.Test.YtdbahiepihkagaaGreatDoorTermTop
namespace Go.Proofs.YtdbahiepihkagaaGreatDoor
set_option maxRecDepth 100000
open Go.RowKit

def linkVs (ps : List (Int × Int)) : List Value := ps.flatMap fun p => [.int .i64 p.1, .int .i64 p.2]
theorem linkVs_len : ∀ ps : List (Int × Int), (linkVs ps).length = ps.length * 2
  | [] => rfl
  | p :: ps => by
    have := linkVs_len ps
    unfold linkVs at this ⊢
    simp [List.flatMap_cons, this]
    omega
theorem linkVs_snoc (ps : List (Int × Int)) (p : Int × Int) : linkVs (ps ++ [p]) = linkVs ps ++ [.int .i64 p.1, .int .i64 p.2] := by simp [linkVs]
theorem linkVs_at : ∀ {ps : List (Int × Int)} {i : Nat}, i < ps.length → (linkVs ps)[i * 2]? = some (.int .i64 (toA ps i)) ∧ (linkVs ps)[i * 2 + 1]? = some (.int .i64 (wtA ps i))
  | p :: ps, 0, _ => ⟨rfl, rfl⟩
  | p :: ps, i + 1, h => by
    have ih := linkVs_at (ps := ps) (i := i) (by simpa using h)
    have e : linkVs (p :: ps) = .int .i64 p.1 :: .int .i64 p.2 :: linkVs ps := rfl
    rw [e, show (i + 1) * 2 = i * 2 + 1 + 1 by omega]
    simp only [List.getElem?_cons_succ]
    simpa [toA, wtA] using ih
section
variable {P : Program} {w : World}
theorem run_copy_none (t ty e : TypeId) (i : TypeInfo) (ht : P.underlying t = some (.slice e)) (hi : P.info? e = some i) (c : Nat) :
    (Builtin.append_ #[t, t] ty #[.slice none 0 0, .slice none 0 c]).run P w = .ok (.slice none 0 0) w := by
  simp [Builtin.append_, run_underlying ht, sizeOf, typeInfo, hi, Builtin.lenOf, Builtin.firstCells]
theorem run_copy (t ty e : TypeId) (i : TypeInfo) (z : Value) (size bytes : Nat) (ht : P.underlying t = some (.slice e)) (hi : P.info? e = some i) (hz : i.zero = some z) (hsize : i.size = size) (hby : i.bytes = bytes) (hzs : z.cells.size = size) (hsz : 0 < size)
    (a : Option Addr) (m c : Nat) (news : List Value) (hl : news.length = m * size) (hnews : ∀ ad, a = some ad → ∀ j u, news[j]? = some u → w.cell? (ad.add j) = some u) (hn : a = none → m = 0) (h1 : ∀ u ∈ news, u.oneCell' = true) (h63 : m ≤ 1000000) (hb : bytes ≤ 100) :
    ∃ v' w', (Builtin.append_ #[t, t] ty #[.slice none 0 0, .slice a m c]).run P w = .ok v' w' ∧ w'.ownsRow w.heap.size e size v' m news ∧ Below w.heap.size w w' := by
  cases a with
  | none =>
    have hm := hn rfl
    subst hm
    have : news = [] := List.eq_nil_of_length_eq_zero (by simpa using hl)
    subst this
    exact ⟨_, _, run_copy_none t ty e i ht hi c, World.ownsRow_nil _ _ _ _, Below.refl _ _⟩
  | some ad =>
    have hbb : m * bytes ≤ 1000000 * 100 := Nat.mul_le_mul h63 hb
    obtain ⟨v', w', hr, h2, h3, _⟩ := run_append_own (P := P) w w.heap.size t ty e i z size bytes ht hi hz hsize hby hzs hsz (.slice none 0 0) 0 [] (World.ownsRow_nil _ _ _ _) ad m c news hl (hnews ad rfl) h1 (by unfold maxLen; omega) (by rw [Nat.zero_add]; omega) (Nat.le_refl _)
    rw [Nat.zero_add, List.nil_append] at h2
    exact ⟨v', w', hr, h2, ⟨h3.os, h3.tape, h3.output, h3.size, fun k hk => h3.block k hk (by simp [Value.ownBlock])⟩⟩
end

theorem infoTerm : (Tryz.prog.info? 55).map (fun i => (i.zero, i.size, i.bytes)) = some (some (.agg #[.int .i64 0, .int .i64 0]), 2, 16) := by kernel_rfl
section
variable {ops : Array Oper} {o : Oper} {a : Act} {w W : World} {K : Act → World → Prop} {Q : Exit → Act → World → Prop} {E : Prop} {rest : List Oper}
theorem links_cells {b off : Nat} {xs : List (Int × Int)} (h : LinksAt w (some ⟨b, off, none⟩) xs) : ∀ j u, (linkVs xs)[j]? = some u → w.cell? ((⟨b, off, none⟩ : Addr).add j) = some u := by
  intro j u hj
  have hlt : j < xs.length * 2 := by
    rw [← linkVs_len]
    exact (List.getElem?_eq_some_iff.1 hj).1
  obtain ⟨b', o', e, _, hc⟩ := h.row (by omega)
  injection e with e
  injection e with e1 e2
  subst e1 e2
  have hi : j / 2 < xs.length := by omega
  obtain ⟨c0, c1⟩ := hc (j / 2) hi
  obtain ⟨l0, l1⟩ := linkVs_at hi
  rw [add_none]
  rcases Nat.mod_two_eq_zero_or_one j with h2 | h2
  · have e : j / 2 * 2 = j := by omega
    rw [e] at c0 l0
    rw [hj] at l0
    rw [c0, ← l0]
  · have e : j / 2 * 2 + 1 = j := by omega
    rw [Nat.add_assoc, e] at c1
    rw [e] at l1
    rw [hj] at l1
    rw [c1, ← l1]
theorem linkVs_one {xs : List (Int × Int)} : ∀ u ∈ linkVs xs, u.oneCell' = true := by
  intro u hu
  obtain ⟨p, _, hp⟩ := List.mem_flatMap.1 hu
  simp at hp
  rcases hp with rfl | rfl <;> rfl
/-- a list of terms of one's own -/
def OwnT (B : Nat) (w : World) (v : Value) (xs : List (Int × Int)) : Prop := w.ownsRow B 55 2 v xs.length (linkVs xs)
theorem OwnT.shape {B : Nat} {v : Value} {xs : List (Int × Int)} (h : OwnT B w v xs) : ∃ a c, v = .slice a xs.length c ∧ xs.length ≤ maxLen ∧ (0 < xs.length → ∃ g, a = some ⟨g, 0, none⟩ ∧ B ≤ g ∧ g < w.heap.size) := by
  have hlt := World.ownsRow.lt h
  rcases h.2 with ⟨rfl, h0⟩ | ⟨g, cap, cur, rfl, _, hg, h1, h2, _⟩
  · rw [h0]
    exact ⟨none, 0, rfl, by unfold maxLen; omega, fun h => absurd h (by omega)⟩
  · exact ⟨some ⟨g, 0, none⟩, cap, rfl, by omega, fun _ => ⟨g, rfl, hlt g rfl⟩⟩
theorem OwnT.cells {B g n c : Nat} {xs : List (Int × Int)} (h : OwnT B w (.slice (some ⟨g, 0, none⟩) n c) xs) {i : Nat} (hi : i < xs.length) :
    w.cell? ⟨g, i * 2, none⟩ = some (.int .i64 (toA xs i)) ∧ w.cell? ⟨g, i * 2 + 1, none⟩ = some (.int .i64 (wtA xs i)) ∧ w.frozen? ⟨g, i * 2 + 1, none⟩ = false := by
  obtain ⟨a', c', e, _, _⟩ := h.shape
  injection e with _ e _
  subst e
  obtain ⟨e1, e2⟩ := linkVs_at hi
  exact ⟨(World.ownsRow.cellAt h (i * 2) (by omega)).trans e1, (World.ownsRow.cellAt h (i * 2 + 1) (by omega)).trans e2, World.ownsRow.frozenAt h _⟩
theorem OwnT.links {B : Nat} {a : Option Addr} {n c : Nat} {xs : List (Int × Int)} (h : OwnT B w (.slice a n c) xs) (hf : ∀ x ∈ xs, I64 x.1 ∧ I64 x.2) : LinksAt w a xs := by
  obtain ⟨a', c', e, hl, hg⟩ := h.shape
  injection e with e1 e2 e3
  subst e1 e2 e3
  refine ⟨hl, fun h0 => ?_, hf⟩
  obtain ⟨g, rfl, _, hlt⟩ := hg h0
  exact ⟨g, 0, rfl, hlt, fun i hi => by rw [Nat.zero_add]; exact ⟨(h.cells hi).1, (h.cells hi).2.1⟩⟩
theorem linkVs_set : ∀ (xs : List (Int × Int)) (i : Nat) (z : Int), (linkVs xs).set (i * 2 + 1) (.int .i64 z) = linkVs (xs.set i (toA xs i, z))
  | [], i, z => rfl
  | p :: xs, 0, z => rfl
  | p :: xs, i + 1, z => by
    have ih := linkVs_set xs i z
    have e : linkVs (p :: xs) = .int .i64 p.1 :: .int .i64 p.2 :: linkVs xs := rfl
    rw [e, show (i + 1) * 2 + 1 = (i * 2 + 1) + 1 + 1 by omega]
    simp only [List.set_cons_succ]
    rw [ih]
    rfl
theorem OwnT.stored {B g n c : Nat} {xs : List (Int × Int)} (h : OwnT B w (.slice (some ⟨g, 0, none⟩) n c) xs) (i : Nat) (z : Int) : OwnT B (w.setCell ⟨g, i * 2 + 1, none⟩ (.int .i64 z)) (.slice (some ⟨g, 0, none⟩) n c) (xs.set i (toA xs i, z)) := by
  obtain ⟨a', c', e, _, _⟩ := h.shape
  injection e with _ e _
  subst e
  have := (World.ownsRow.stored h (i * 2 + 1) (.int .i64 z)).1
  rw [linkVs_set] at this
  unfold OwnT
  rw [List.length_set]
  exact this
theorem OwnT.drew {B : Nat} {v : Value} {xs : List (Int × Int)} (h : OwnT B w v xs) (n : Nat) : OwnT B (w.drewN n) v xs := h
theorem OwnT.far {B : Nat} {w' : World} {v : Value} {xs : List (Int × Int)} (h : OwnT B w v xs) (hb : Below w.heap.size w w') : OwnT B w' v xs :=
  World.ownsRow.kept h (row := none) ⟨hb.os, hb.tape, hb.output, hb.size, fun k hk _ => hb.block k hk⟩ (by cases v.ownBlock <;> simp)
/-- a copy of a list of terms, at the list of a plain region's operations -/
theorem wpList_copyT (hgd : o.guard = none) (s x : Operand) (ho : o.op = .call { callee := .builtin .append, args := #[s, x], argTypes := #[25, 25] })
    (la : Option Addr) (lc : Nat) (xs : List (Int × Int)) (m : Nat) (hm : m = xs.length) (hs' : a.eval s = .slice none 0 0) (hx : a.eval x = .slice la m lc) (h : LinksAt w la xs) (hl : xs.length ≤ 1000000)
    (hK : ∀ a' c' w', OwnT w.heap.size w' (.slice a' m c') xs → Below w.heap.size w w' → wpList Tryz.prog ops Q rest (a.put o.dst (.slice a' m c')) w') :
    wpList Tryz.prog ops Q (o :: rest) a w := by
  subst hm
  obtain ⟨i, hi, hz, hz1, hz2⟩ := info_parts infoTerm
  refine wpList_plain hgd fun K hK' => ?_
  obtain ⟨v', w', hr, h2, h3⟩ := run_copy (P := Tryz.prog) (w := w) 25 o.type 55 i (.agg #[.int .i64 0, .int .i64 0]) 2 16 Tryz.underlying25 hi hz hz1 hz2 rfl (by decide) la xs.length lc (linkVs xs) (linkVs_len xs) (fun ad e => by
    subst e
    intro j u hj
    have hlt : 0 < xs.length := by
      have := (List.getElem?_eq_some_iff.1 hj).1
      rw [linkVs_len] at this
      omega
    obtain ⟨b, off, e, _⟩ := h.row hlt
    injection e with e
    subst e
    exact links_cells h j u hj) (fun e => by
    rcases Nat.eq_zero_or_pos xs.length with h0 | h0
    · exact h0
    · obtain ⟨b, off, e', _⟩ := h.row h0
      rw [e] at e'
      cases e') linkVs_one hl (by decide)
  have h2' : OwnT w.heap.size w' v' xs := h2
  obtain ⟨a', c', e, _⟩ := h2'.shape
  subst e
  unfold Oper.wp execOp
  simp only [ho, resolve, invoke, builtin, Sem.run_bind, Sem.run_pure, Result.andThen_ok, List.map_toArray, List.map_cons, List.map_nil, hs', hx, hr]
  exact hK' _ _ (hK a' c' w' h2' h3)
end
end Go.Proofs.YtdbahiepihkagaaGreatDoor
namespace Go.Proofs.YtdbahiepihkagaaGreatDoor
set_option maxRecDepth 100000
open Go.RowKit

def renT (m : List Int) (t : Int × Int) : Int × Int := if t.1 = 5 ∨ t.1 = 12 then (t.1, idA m t.2.toNat) else t
def renL (xs : List (Int × Int)) (m : List Int) : List (Int × Int) := xs.map (renT m)
def renO (xs : List (Int × Int)) (m : List Int) : Int ⊕ List (Int × Int) :=
  if validE xs m.length = true then (if (m.all fun z => decide (0 ≤ z ∧ z < 6)) = true then .inr (renL xs m) else .inl 2) else .inl 7
/-- what is answered: an error and no list, or a list of the call's own -/
def RenSays (B : Nat) (o : Int ⊕ List (Int × Int)) (e : Ending) (w : World) : Prop :=
  match o with
  | .inl k => e = .returned (.tuple #[.slice none 0 0, .int .i64 k])
  | .inr ys => ∃ v, e = .returned (.tuple #[v, .int .i64 0]) ∧ OwnT B w v ys
/-- the first i terms are renamed -/
def renS (xs : List (Int × Int)) (m : List Int) (i : Nat) : List (Int × Int) := (xs.take i).map (renT m) ++ xs.drop i
section
variable {xs : List (Int × Int)} {m : List Int} {i : Nat}
theorem renS_zero : renS xs m 0 = xs := by simp [renS]
theorem renS_all : renS xs m xs.length = renL xs m := by simp [renS, renL]
theorem renS_len : (renS xs m i).length = xs.length := by simp [renS]; omega
theorem renS_get (hi : i < xs.length) : (renS xs m i)[i]? = some (toA xs i, wtA xs i) := by
  unfold renS
  have hl : ((xs.take i).map (renT m)).length = i := by simp; omega
  rw [List.getElem?_append_right (by omega), hl, Nat.sub_self, drop_tm hi]
  rfl
theorem renS_at (hi : i < xs.length) : toA (renS xs m i) i = toA xs i ∧ wtA (renS xs m i) i = wtA xs i := by
  have h := renS_get (m := m) hi
  constructor
  · conv => lhs; unfold toA
    rw [List.getD_eq_getElem?_getD, h]
    rfl
  · conv => lhs; unfold wtA
    rw [List.getD_eq_getElem?_getD, h]
    rfl
theorem renS_set (hi : i < xs.length) : (renS xs m i).set i (renT m (toA xs i, wtA xs i)) = renS xs m (i + 1) := by
  unfold renS
  have hl : ((xs.take i).map (renT m)).length = i := by simp; omega
  rw [List.set_append_right _ _ (by omega), hl, Nat.sub_self, drop_tm hi, List.set_cons_zero, List.take_add_one, List.map_append, List.append_assoc]
  congr 1
  simp [toA, wtA, hi]
theorem renS_skip (hi : i < xs.length) (h : ¬ (toA xs i = 5 ∨ toA xs i = 12)) : renS xs m i = renS xs m (i + 1) := by
  rw [← renS_set hi]
  have e : renT m (toA xs i, wtA xs i) = (toA xs i, wtA xs i) := by unfold renT; rw [if_neg h]
  rw [e]
  have h2 := renS_get (m := m) hi
  refine (List.ext_getElem? fun k => ?_)
  rw [List.getElem?_set]
  split
  · rename_i hk
    subst hk
    rw [h2]
    split
    · rfl
    · rename_i h3
      exact absurd (by rw [renS_len]; exact hi) h3
  · rfl
end
theorem OwnT.mono {w : World} {B B' : Nat} {v : Value} {xs : List (Int × Int)} (h : OwnT B w v xs) (hb : B' ≤ B) : OwnT B' w v xs := by
  obtain ⟨hl, h⟩ := h
  refine ⟨hl, ?_⟩
  rcases h with h | ⟨g, cap, cur, h1, h2, h3⟩
  · exact .inl h
  · exact .inr ⟨g, cap, cur, h1, by omega, h3⟩

end Go.Proofs.YtdbahiepihkagaaGreatDoor
namespace Go.Proofs.YtdbahiepihkagaaGreatDoor
set_option maxRecDepth 100000
open Go.RowKit

theorem lightE_any (a : Option Addr) (n c : Nat) (w : World) : Calls Tryz.prog 19 #[.slice a n c] w fun e w' => e = .returned (.bool (decide (n ≤ 250))) ∧ w' = w := by
  by_cases h : n ≤ 250
  all_goals
    have d1 : decide (n ≤ 250) = decide (n ≤ 250) := rfl
    conv at d1 => rhs; simp only [h, decide_true, decide_false]
    have d2 : decide ((n : Int) ≤ 250) = decide (n ≤ 250) := by rw [decide_eq_decide]; omega
    go_enter Tryz.func19, Tryz.ntmps19
    go_wp2
    go_ret
    exact ⟨ret_bool (by first | rfl | (rw [d1] <;> simp <;> omega)), rfl⟩
end Go.Proofs.YtdbahiepihkagaaGreatDoor
