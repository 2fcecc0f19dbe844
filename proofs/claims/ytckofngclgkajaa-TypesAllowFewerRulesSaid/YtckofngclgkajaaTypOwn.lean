/- Rows of structs of one's own: append of a row. -/
import Derived.Test.YtckofngclgkajaaTypChk
import Derived.Laws.OwnMore
namespace Go.Proofs.Ytckofngclgkajaa
set_option maxRecDepth 100000
open Go.RowKit

/-- a kind of struct: its cells, its types -/
structure SKind (α : Type) where
  m : Nat
  cells : α → List Value
  el : TypeId
  sl : TypeId
  bytes : Nat
  zero : Value
  len : ∀ s, (cells s).length = m
  one : ∀ s, ∀ u ∈ cells s, u.oneCell' = true
  pos : 0 < m
  und : Try.prog.underlying sl = some (.slice el)
  info : (Try.prog.info? el).map (fun i => (i.zero, i.size, i.bytes)) = some (some zero, m, bytes)
  small : bytes ≤ 100
  zs : zero.cells.size = m
def ruleK : SKind RuleV where
  m := 3
  cells := RuleV.cells
  el := 51
  sl := 31
  bytes := 64
  zero := .agg #[.string ByteArray.empty, .slice none 0 0, .slice none 0 0]
  len := fun _ => rfl
  one := fun s u hu => by
    simp [RuleV.cells] at hu
    rcases hu with rfl | rfl | rfl <;> rfl
  pos := by decide
  und := Try.underlying31
  info := by kernel_rfl
  small := by decide
  zs := rfl
def setK : SKind SetV where
  m := 2
  cells := SetV.cells
  el := 54
  sl := 49
  bytes := 32
  zero := .agg #[.int .i64 0, .slice none 0 0]
  len := fun _ => rfl
  one := fun s u hu => by
    simp [SetV.cells] at hu
    rcases hu with rfl | rfl <;> rfl
  pos := by decide
  und := Try.underlying49
  info := by kernel_rfl
  small := by decide
  zs := rfl
def varK : SKind VarV where
  m := 6
  cells := VarV.cells
  el := 56
  sl := 30
  bytes := 56
  zero := .agg #[.string ByteArray.empty, .int .i64 0, .int .i64 0, .int .i64 0, .int .i64 0, .int .i64 0]
  len := fun _ => rfl
  one := fun s u hu => by
    simp [VarV.cells] at hu
    rcases hu with rfl | rfl | rfl | rfl | rfl | rfl <;> rfl
  pos := by decide
  und := Try.underlying30
  info := by kernel_rfl
  small := by decide
  zs := rfl
section
variable {α : Type} {R : SKind α} {w w' : World} {B : Nat}
def flatS (R : SKind α) (ss : List α) : List Value := ss.flatMap R.cells
theorem flatS_len (ss : List α) : (flatS R ss).length = ss.length * R.m := by
  induction ss with
  | nil => simp [flatS]
  | cons s ss ih =>
    unfold flatS at ih ⊢
    rw [List.flatMap_cons, List.length_append, ih, R.len, List.length_cons, Nat.succ_mul]
    omega
theorem flatS_app (xs ys : List α) : flatS R (xs ++ ys) = flatS R xs ++ flatS R ys := by simp [flatS]
theorem flatS_at : ∀ (ss : List α) (i : Nat) (hi : i < ss.length) (j : Nat), j < R.m → (flatS R ss)[i * R.m + j]? = (R.cells ss[i])[j]?
  | [], i, hi, j, hj => absurd hi (by simp)
  | s :: ss, 0, hi, j, hj => by
    unfold flatS
    rw [List.flatMap_cons, Nat.zero_mul, Nat.zero_add, List.getElem?_append_left (by rw [R.len]; exact hj)]
    rfl
  | s :: ss, i + 1, hi, j, hj => by
    have ih := flatS_at ss i (by simpa using hi) j hj
    unfold flatS at ih ⊢
    rw [List.flatMap_cons, List.getElem?_append_right (by rw [R.len, Nat.succ_mul]; omega), R.len]
    rw [show (i + 1) * R.m + j - R.m = i * R.m + j by rw [Nat.succ_mul]; omega, ih]
    rfl
/-- a row of structs of one's own -/
def OwnS (R : SKind α) (B : Nat) (w : World) (v : Value) (ss : List α) : Prop := w.ownsRow B R.el R.m v ss.length (flatS R ss)
theorem OwnS.nil (B : Nat) (w : World) : OwnS R B w (.slice none 0 0) ([] : List α) := World.ownsRow_nil _ _ _ _
theorem OwnS.shape {v : Value} {ss : List α} (h : OwnS R B w v ss) : ∃ a c, v = .slice a ss.length c ∧ ss.length ≤ c ∧ RowAt R.m R.cells w a ss ∧ (∀ k, v.ownBlock = some k → B ≤ k ∧ k < w.heap.size) := by
  have hlt := World.ownsRow.lt h
  rcases h.2 with ⟨rfl, h0⟩ | ⟨g, cap, cur, rfl, hB, hg, h1, h2, _⟩
  · exact ⟨none, 0, by rw [h0], by omega, ⟨by omega, fun h => absurd h (by omega)⟩, hlt⟩
  · refine ⟨some ⟨g, 0, none⟩, cap, rfl, h1, ⟨by omega, fun h0 => ⟨g, 0, rfl, (hlt g rfl).2, fun i hi j hj => ?_⟩⟩, hlt⟩
    rw [Nat.zero_add]
    have hij : i * R.m + j < ss.length * R.m := by
      have : (i + 1) * R.m ≤ ss.length * R.m := Nat.mul_le_mul_right _ hi
      rw [Nat.succ_mul] at this
      omega
    rw [World.ownsRow.cellAt h _ hij, flatS_at ss i hi j hj]
theorem OwnS.far {v : Value} {ss : List α} (h : OwnS R B w v ss) (hb : Below w.heap.size w w') : OwnS R B w' v ss :=
  World.ownsRow.kept h (row := none) ⟨hb.os, hb.tape, hb.output, hb.size, fun k hk _ => hb.block k hk⟩ (by cases v.ownBlock <;> simp)
theorem OwnS.block {v : Value} {ss : List α} (h : OwnS R B w v ss) (h0 : 0 < ss.length) : ∃ g c, v = .slice (some ⟨g, 0, none⟩) ss.length c ∧ B ≤ g ∧ g < w.heap.size ∧ (∀ j, w.frozen? ⟨g, j, none⟩ = false) := by
  have hlt := World.ownsRow.lt h
  rcases h.2 with ⟨rfl, h1⟩ | ⟨g, cap, cur, rfl, hB, hg, h1, h2, _⟩
  · omega
  · exact ⟨g, cap, rfl, hB, (hlt g rfl).2, fun j => World.ownsRow.frozenAt h j⟩
/-- the cells of a row of structs, one behind the other -/
theorem row_cells {b o : Nat} {ss : List α} (h : RowAt R.m R.cells w (some ⟨b, o, none⟩) ss) : ∀ j u, (flatS R ss)[j]? = some u → w.cell? ((⟨b, o, none⟩ : Addr).add j) = some u := by
  intro j u hj
  have hlt : j < ss.length * R.m := by
    rw [← flatS_len]
    exact (List.getElem?_eq_some_iff.1 hj).1
  have hp := R.pos
  have hi : j / R.m < ss.length := (Nat.div_lt_iff_lt_mul hp).2 hlt
  have hm : j % R.m < R.m := Nat.mod_lt _ hp
  obtain ⟨b', o', e, _, hc⟩ := h.row (Nat.lt_of_le_of_lt (Nat.zero_le _) hi)
  injection e with e
  injection e with e1 e2
  subst e1 e2
  have h1 := hc (j / R.m) hi (j % R.m) hm
  have h2 := flatS_at (R := R) ss (j / R.m) hi (j % R.m) hm
  have e : j / R.m * R.m + j % R.m = j := by rw [Nat.mul_comm]; exact Nat.div_add_mod j R.m
  rw [e, hj] at h2
  have h3 := h1.trans h2.symm
  rw [Nat.add_assoc, e] at h3
  rw [add_none]
  exact h3
theorem RowAt.part {b o : Nat} {ss : List α} (h : RowAt R.m R.cells w (some ⟨b, o, none⟩) ss) {p k : Nat} (hp : p + k ≤ ss.length) : RowAt R.m R.cells w (some ⟨b, o + p * R.m, none⟩) ((ss.drop p).take k) := by
  have hlen : ((ss.drop p).take k).length = k := by rw [List.length_take, List.length_drop]; omega
  refine ⟨by have := h.size; omega, fun h0 => ?_⟩
  obtain ⟨b', o', e, hb, hc⟩ := h.row (by omega)
  injection e with e
  injection e with e1 e2
  subst e1 e2
  refine ⟨b, o + p * R.m, rfl, hb, fun i hi j hj => ?_⟩
  rw [hlen] at hi
  have h1 := hc (p + i) (by omega) j hj
  rw [Nat.add_mul] at h1
  rw [show o + p * R.m + i * R.m + j = o + (p * R.m + i * R.m) + j by omega, h1]
  simp
theorem run_appS (R : SKind α) (ty : TypeId) (B : Nat) (v : Value) (ys : List α) (hown : OwnS R B w v ys) (ad : Addr) (lc : Nat) (xs : List α) (hc : ∀ j u, (flatS R xs)[j]? = some u → w.cell? (ad.add j) = some u) (hl : ys.length + xs.length ≤ 1000000) (hB : B ≤ w.heap.size) :
    ∃ a' c' w', (Builtin.append_ #[R.sl, R.sl] ty #[v, .slice (some ad) xs.length lc]).run Try.prog w = .ok (.slice a' (ys.length + xs.length) c') w' ∧ OwnS R B w' (.slice a' (ys.length + xs.length) c') (ys ++ xs) ∧ w.grownBy w' v.ownBlock := by
  obtain ⟨i, hi, hz, hz1, hz2⟩ := info_parts R.info
  have hb : (ys.length + xs.length) * R.bytes ≤ 1000000 * 100 := Nat.mul_le_mul hl R.small
  obtain ⟨v', w', hr, h2, h3, _⟩ := run_append_own (P := Try.prog) w B R.sl ty R.el i R.zero R.m R.bytes R.und hi hz hz1 hz2 R.zs R.pos v ys.length (flatS R ys) hown ad xs.length lc (flatS R xs) (flatS_len xs) hc (fun u hu => by
    unfold flatS at hu
    obtain ⟨s, _, h⟩ := List.mem_flatMap.1 hu
    exact R.one s u h) (by unfold maxLen; omega) (by omega) hB
  rw [← flatS_app] at h2
  have h2' : OwnS R B w' v' (ys ++ xs) := by
    unfold OwnS
    rw [List.length_append]
    exact h2
  obtain ⟨a', c', e, _⟩ := h2'.shape
  rw [List.length_append] at e
  subst e
  exact ⟨a', c', w', hr, h2', h3⟩
variable {ops : Array Oper} {o : Oper} {a : Act} {K : Act → World → Prop} {Q : Exit → Act → World → Prop} {E : Prop} {rest : List Oper}
theorem wpList_appS (R : SKind α) (hgd : o.guard = none) (s x : Operand) (ho : o.op = .call { callee := .builtin .append, args := #[s, x], argTypes := #[R.sl, R.sl] })
    (B : Nat) (v : Value) (ys : List α) (n : Nat) (hn : n = ys.length) (hown : OwnS R B w v ys) (ad : Addr) (lc : Nat) (xs : List α) (m : Nat) (hm : m = xs.length) (hs' : a.eval s = v) (hx : a.eval x = .slice (some ad) m lc) (hc : ∀ j u, (flatS R xs)[j]? = some u → w.cell? (ad.add j) = some u) (hl : n + m ≤ 1000000) (hB : B ≤ w.heap.size)
    (hK : ∀ a' c' w', OwnS R B w' (.slice a' (n + m) c') (ys ++ xs) → w.grownBy w' v.ownBlock → wpList Try.prog ops Q rest (a.put o.dst (.slice a' (n + m) c')) w') :
    wpList Try.prog ops Q (o :: rest) a w := by
  subst hn hm
  refine wpList_plain hgd fun K hK' => ?_
  obtain ⟨a', c', w', hr, h2, h3⟩ := run_appS R o.type B v ys hown ad lc xs hc hl hB
  unfold Oper.wp execOp
  simp only [ho, resolve, invoke, builtin, Sem.run_bind, Sem.run_pure, Result.andThen_ok, List.map_toArray, List.map_cons, List.map_nil, hs', hx, hr]
  exact hK' _ _ (hK a' c' w' h2 h3)
/-- a copy of a row of structs -/
theorem wpList_copyS (R : SKind α) (hgd : o.guard = none) (s x : Operand) (ho : o.op = .call { callee := .builtin .append, args := #[s, x], argTypes := #[R.sl, R.sl] })
    (B : Nat) (ad : Addr) (lc : Nat) (xs : List α) (m : Nat) (hm : m = xs.length) (hs' : a.eval s = .slice none 0 0) (hx : a.eval x = .slice (some ad) m lc) (hc : ∀ j u, (flatS R xs)[j]? = some u → w.cell? (ad.add j) = some u) (hl : m ≤ 1000000) (hB : B ≤ w.heap.size)
    (hK : ∀ a' c' w', OwnS R B w' (.slice a' m c') xs → Below w.heap.size w w' → wpList Try.prog ops Q rest (a.put o.dst (.slice a' m c')) w') :
    wpList Try.prog ops Q (o :: rest) a w := by
  refine wpList_appS R hgd s x ho B (.slice none 0 0) [] 0 rfl (OwnS.nil _ _) ad lc xs m hm hs' hx hc (by omega) hB fun a' c' w' h1 h2 => ?_
  rw [Nat.zero_add] at h1 ⊢
  rw [List.nil_append] at h1
  exact hK a' c' w' h1 ((Below.refl _ _).grown h2 (Nat.le_refl _) (fun k e => by cases e))
theorem step_copyS (R : SKind α) (hgd : o.guard = none) (s x : Operand) (ho : o.op = .call { callee := .builtin .append, args := #[s, x], argTypes := #[R.sl, R.sl] })
    (B : Nat) (ad : Addr) (lc : Nat) (xs : List α) (m : Nat) (hm : m = xs.length) (hs' : a.eval s = .slice none 0 0) (hx : a.eval x = .slice (some ad) m lc) (hc : ∀ j u, (flatS R xs)[j]? = some u → w.cell? (ad.add j) = some u) (hl : m ≤ 1000000) (hB : B ≤ w.heap.size)
    (hK : ∀ a' c' w', OwnS R B w' (.slice a' m c') xs → Below w.heap.size w w' → K (a.put o.dst (.slice a' m c')) w') :
    if Region.wanted o (yielded ops a.tmps) = true then Oper.wp Try.prog o a w K Q else E := by
  subst hm
  have hw : Region.wanted o (yielded ops a.tmps) = true := by simp [Region.wanted, hgd]
  rw [if_pos hw]
  obtain ⟨a', c', w', hr, h2, h3⟩ := run_appS R o.type B (.slice none 0 0) [] (OwnS.nil _ _) ad lc xs hc (by simpa using hl) hB
  unfold Oper.wp execOp
  simp only [ho, resolve, invoke, builtin, Sem.run_bind, Sem.run_pure, Result.andThen_ok, List.map_toArray, List.map_cons, List.map_nil, hs', hx, hr]
  have h4 : K (a.put o.dst (.slice a' (([] : List α).length + xs.length) c')) w' := by
    have h5 := hK a' c' w' (by simpa using h2) ((Below.refl _ _).grown h3 (Nat.le_refl _) (fun k e => by cases e))
    simpa using h5
  exact h4
theorem step_appS (R : SKind α) (hgd : o.guard = none) (s x : Operand) (ho : o.op = .call { callee := .builtin .append, args := #[s, x], argTypes := #[R.sl, R.sl] })
    (B : Nat) (v : Value) (ys : List α) (n : Nat) (hn : n = ys.length) (hown : OwnS R B w v ys) (ad : Addr) (lc : Nat) (xs : List α) (m : Nat) (hm : m = xs.length) (hs' : a.eval s = v) (hx : a.eval x = .slice (some ad) m lc) (hc : ∀ j u, (flatS R xs)[j]? = some u → w.cell? (ad.add j) = some u) (hl : n + m ≤ 1000000) (hB : B ≤ w.heap.size)
    (hK : ∀ a' c' w', OwnS R B w' (.slice a' (n + m) c') (ys ++ xs) → w.grownBy w' v.ownBlock → K (a.put o.dst (.slice a' (n + m) c')) w') :
    if Region.wanted o (yielded ops a.tmps) = true then Oper.wp Try.prog o a w K Q else E := by
  subst hn hm
  have hw : Region.wanted o (yielded ops a.tmps) = true := by simp [Region.wanted, hgd]
  rw [if_pos hw]
  obtain ⟨a', c', w', hr, h2, h3⟩ := run_appS R o.type B v ys hown ad lc xs hc hl hB
  unfold Oper.wp execOp
  simp only [ho, resolve, invoke, builtin, Sem.run_bind, Sem.run_pure, Result.andThen_ok, List.map_toArray, List.map_cons, List.map_nil, hs', hx, hr]
  exact hK a' c' w' h2 h3
end
end Go.Proofs.Ytckofngclgkajaa
