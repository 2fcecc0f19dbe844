/- Two slices of the call's own that lie in the fields of one struct, each of which an append lengthens: what stays. -/
import Derived.Test.YtfbbkiibhdgojaaRefT7
import Derived.Deep.AppendLies
import Derived.Deep.RegionLaw
namespace Go.Proofs.Ytfbbkiibhdgojaa
open Go.RowKit

/-- Behind w0: the struct at block gb holds x1 and x2; v1 and v2 own the rows l1 and l2, apart from each other; each of ps is a row of links of its own; each of es is a cell of a block of its own. -/
structure Two (w0 : World) (gb : Nat) (e1 e2 : TypeId) (w : World) (x1 x2 v1 : Value) (l1 : List Value) (v2 : Value) (l2 : List Value) (ps : List (Value × List Port)) (es : List (Nat × Value)) : Prop where
  gt : gb < w0.heap.size
  fr : w0.grownBy w (some gb)
  c0 : w.cell? ⟨gb, 0, none⟩ = some x1
  c1 : w.cell? ⟨gb, 1, none⟩ = some x2
  f0 : w.frozen? ⟨gb, 0, none⟩ = false
  f1 : w.frozen? ⟨gb, 1, none⟩ = false
  o1 : w.ownsRow w0.heap.size e1 1 v1 l1.length l1
  o2 : w.ownsRow w0.heap.size e2 1 v2 l2.length l2
  ap : v1.ownBlock = none ∨ v1.ownBlock ≠ v2.ownBlock
  lk : ∀ p ∈ ps, LinkRow w0.heap.size w p.1 p.2 ∧ (p.1.ownBlock = none ∨ (p.1.ownBlock ≠ v1.ownBlock ∧ p.1.ownBlock ≠ v2.ownBlock))
  el : ∀ e ∈ es, w.cell? ⟨e.1, 0, none⟩ = some e.2 ∧ w0.heap.size ≤ e.1 ∧ e.1 < w.heap.size ∧ v1.ownBlock ≠ some e.1 ∧ v2.ownBlock ≠ some e.1

section
variable {w0 w w' : World} {gb : Nat} {e1 e2 : TypeId} {x1 x2 v1 v2 : Value} {l1 l2 : List Value} {ps : List (Value × List Port)} {es : List (Nat × Value)}

theorem Two.drew (h : Two w0 gb e1 e2 w x1 x2 v1 l1 v2 l2 ps es) : Two w0 gb e1 e2 w.drew x1 x2 v1 l1 v2 l2 ps es :=
  ⟨h.gt, ⟨h.fr.os, h.fr.tape, h.fr.output, h.fr.size, h.fr.block⟩, h.c0, h.c1, h.f0, h.f1, h.o1, h.o2, h.ap, h.lk, h.el⟩

theorem own_ne {v : Value} : v.ownBlock = none ∨ v.ownBlock ≠ (none : Option Nat) := by
  cases v.ownBlock <;> simp

/-- a new block -/
theorem Two.alloc (h : Two w0 gb e1 e2 w x1 x2 v1 l1 v2 l2 ps es) (o : Obj) : Two w0 gb e1 e2 (w.alloc o) x1 x2 v1 l1 v2 l2 ps es := by
  have hsz := h.fr.size
  have old : ∀ (b i : Nat), b < w.heap.size → (w.alloc o).cell? ⟨b, i, none⟩ = w.cell? ⟨b, i, none⟩ := fun b i hb => World.cell?_of_block (heap_alloc_old w o hb)
  have oldf : ∀ (b i : Nat), b < w.heap.size → (w.alloc o).frozen? ⟨b, i, none⟩ = w.frozen? ⟨b, i, none⟩ := fun b i hb => World.frozen?_of_block (heap_alloc_old w o hb)
  have hg := h.gt
  refine ⟨h.gt, h.fr.trans (World.grownBy_alloc w o _), (old _ _ (by omega)).trans h.c0, (old _ _ (by omega)).trans h.c1, (oldf _ _ (by omega)).trans h.f0, (oldf _ _ (by omega)).trans h.f1, h.o1.alloc o, h.o2.alloc o, h.ap, fun p hp => ?_, fun e he => ?_⟩
  · exact ⟨World.ownsRow.alloc (h.lk p hp).1 o, (h.lk p hp).2⟩
  · obtain ⟨h1, h2, h3, h4, h5⟩ := h.el e he
    exact ⟨(old _ _ h3).trans h1, h2, by simp; omega, h4, h5⟩
/-- a new block of one cell -/
theorem Two.one (h : Two w0 gb e1 e2 w x1 x2 v1 l1 v2 l2 ps es) (u : Value) (t : TypeId) : Two w0 gb e1 e2 (w.alloc (.cells #[u] t)) x1 x2 v1 l1 v2 l2 ps (es ++ [(w.heap.size, u)]) := by
  have k := h.alloc (.cells #[u] t)
  have hsz := h.fr.size
  refine ⟨k.gt, k.fr, k.c0, k.c1, k.f0, k.f1, k.o1, k.o2, k.ap, k.lk, fun e he => ?_⟩
  rcases List.mem_append.1 he with he | he
  · exact k.el e he
  · obtain rfl : e = (w.heap.size, u) := by simpa using he
    refine ⟨?_, hsz, by simp, fun e => ?_, fun e => ?_⟩
    · show (w.alloc (.cells #[u] t)).cell? ⟨w.heap.size, 0, none⟩ = some u
      rw [World.cell?_alloc_new]; rfl
    · have := (h.o1.lt _ e).2
      simp at this
    · have := (h.o2.lt _ e).2
      simp at this

/-- the first one has been lengthened -/
theorem Two.app1 {v : Value} {l : List Value} {g : Nat} (h : Two w0 gb e1 e2 w x1 x2 v1 l1 v2 l2 ps es) (hown : w'.ownsRow w0.heap.size e1 1 v l.length l) (hgrow : w.grownBy w' v1.ownBlock) (hv : v.ownBlock = some g) (hat : v1.ownBlock = some g ∨ g = w.heap.size) : Two w0 gb e1 e2 w' x1 x2 v l v2 l2 ps es := by
  have hsz := h.fr.size
  have hg := h.gt
  have hfar : some gb ≠ v1.ownBlock := fun e => by
    have := (h.o1.lt _ e.symm).1
    omega
  have hf : w0.grownBy w' (some gb) := ⟨hgrow.os.trans h.fr.os, hgrow.tape.trans h.fr.tape, hgrow.output.trans h.fr.output, Nat.le_trans h.fr.size hgrow.size, fun k hk hne => by
    rw [hgrow.block k (by omega) (fun e => by have := (h.o1.lt _ e.symm).1; omega)]
    exact h.fr.block k hk hne⟩
  have far : ∀ (u : Value), (∀ k, u.ownBlock = some k → k < w.heap.size) → (u.ownBlock = none ∨ u.ownBlock ≠ v1.ownBlock) → u.ownBlock = none ∨ u.ownBlock ≠ some g := fun u hu hne => by
    cases hb : u.ownBlock with
    | none => exact .inl rfl
    | some k =>
      refine .inr fun e => ?_
      have e : k = g := by simpa using e
      rcases hat with hat | hat
      · rcases hne with hne | hne
        · rw [hb] at hne; cases hne
        · exact hne (by rw [hb, hat, e])
      · have := hu k hb
        omega
  refine ⟨h.gt, hf, hgrow.cell h.c0 hfar, hgrow.cell h.c1 hfar, (hgrow.frozen_far ⟨gb, 0, none⟩ (by simp; omega) hfar).trans h.f0, (hgrow.frozen_far ⟨gb, 1, none⟩ (by simp; omega) hfar).trans h.f1, hown, ?_, ?_, fun p hp => ?_, fun e he => ?_⟩
  · refine h.o2.kept hgrow ?_
    rcases h.ap with e | e
    · rw [e]; exact own_ne
    · exact .inr (Ne.symm e)
  · right
    rw [hv]
    have h2 : v2.ownBlock = none ∨ v2.ownBlock ≠ v1.ownBlock := by
      rcases h.ap with e | e
      · rw [e]; exact own_ne
      · exact .inr (Ne.symm e)
    rcases far v2 (fun k hk => (h.o2.lt k hk).2) h2 with e | e
    · rw [e]; simp
    · exact Ne.symm e
  · obtain ⟨h1, h2⟩ := h.lk p hp
    have h3 : p.1.ownBlock = none ∨ p.1.ownBlock ≠ v1.ownBlock := h2.imp id (·.1)
    refine ⟨World.ownsRow.kept h1 hgrow h3, ?_⟩
    rcases far p.1 (fun k hk => (World.ownsRow.lt h1 k hk).2) h3 with e | e
    · exact .inl e
    · rcases h2 with h2 | h2
      · exact .inl h2
      · exact .inr ⟨by rw [hv]; exact e, h2.2⟩
  · obtain ⟨h1, h2, h3, h4, h5⟩ := h.el e he
    refine ⟨hgrow.cell h1 (Ne.symm h4), h2, Nat.lt_of_lt_of_le h3 hgrow.size, ?_, h5⟩
    rw [hv]
    intro e'
    have e' : g = e.1 := by simpa using e'
    rcases hat with hat | hat
    · exact h4 (by rw [hat, e'])
    · omega
/-- the two are of one kind -/
theorem Two.swap (h : Two w0 gb e1 e2 w x1 x2 v1 l1 v2 l2 ps es) : v2.ownBlock = none ∨ v2.ownBlock ≠ v1.ownBlock := by
  rcases h.ap with e | e
  · rw [e]; exact own_ne
  · exact .inr (Ne.symm e)
/-- the second one has been lengthened -/
theorem Two.app2 {v : Value} {l : List Value} {g : Nat} (h : Two w0 gb e1 e2 w x1 x2 v1 l1 v2 l2 ps es) (hown : w'.ownsRow w0.heap.size e2 1 v l.length l) (hgrow : w.grownBy w' v2.ownBlock) (hv : v.ownBlock = some g) (hat : v2.ownBlock = some g ∨ g = w.heap.size) : Two w0 gb e1 e2 w' x1 x2 v1 l1 v l ps es := by
  have hsz := h.fr.size
  have hg := h.gt
  have hfar : some gb ≠ v2.ownBlock := fun e => by
    have := (h.o2.lt _ e.symm).1
    omega
  have hf : w0.grownBy w' (some gb) := ⟨hgrow.os.trans h.fr.os, hgrow.tape.trans h.fr.tape, hgrow.output.trans h.fr.output, Nat.le_trans h.fr.size hgrow.size, fun k hk hne => by
    rw [hgrow.block k (by omega) (fun e => by have := (h.o2.lt _ e.symm).1; omega)]
    exact h.fr.block k hk hne⟩
  have far : ∀ (u : Value), (∀ k, u.ownBlock = some k → k < w.heap.size) → (u.ownBlock = none ∨ u.ownBlock ≠ v2.ownBlock) → u.ownBlock = none ∨ u.ownBlock ≠ some g := fun u hu hne => by
    cases hb : u.ownBlock with
    | none => exact .inl rfl
    | some k =>
      refine .inr fun e => ?_
      have e : k = g := by simpa using e
      rcases hat with hat | hat
      · rcases hne with hne | hne
        · rw [hb] at hne; cases hne
        · exact hne (by rw [hb, hat, e])
      · have := hu k hb
        omega
  refine ⟨h.gt, hf, hgrow.cell h.c0 hfar, hgrow.cell h.c1 hfar, (hgrow.frozen_far ⟨gb, 0, none⟩ (by simp; omega) hfar).trans h.f0, (hgrow.frozen_far ⟨gb, 1, none⟩ (by simp; omega) hfar).trans h.f1, h.o1.kept hgrow h.ap, hown, ?_, fun p hp => ?_, fun e he => ?_⟩
  · rw [hv]
    exact far v1 (fun k hk => (h.o1.lt k hk).2) h.ap
  · obtain ⟨h1, h2⟩ := h.lk p hp
    have h3 : p.1.ownBlock = none ∨ p.1.ownBlock ≠ v2.ownBlock := h2.imp id (·.2)
    refine ⟨World.ownsRow.kept h1 hgrow h3, ?_⟩
    rcases far p.1 (fun k hk => (World.ownsRow.lt h1 k hk).2) h3 with e | e
    · exact .inl e
    · rcases h2 with h2 | h2
      · exact .inl h2
      · exact .inr ⟨h2.1, by rw [hv]; exact e⟩
  · obtain ⟨h1, h2, h3, h4, h5⟩ := h.el e he
    refine ⟨hgrow.cell h1 (Ne.symm h5), h2, Nat.lt_of_lt_of_le h3 hgrow.size, h4, ?_⟩
    rw [hv]
    intro e'
    have e' : g = e.1 := by simpa using e'
    rcases hat with hat | hat
    · exact h5 (by rw [hat, e'])
    · omega
theorem grown_set (w : World) (b i : Nat) (v : Value) : w.grownBy (w.setCell ⟨b, i, none⟩ v) (some b) :=
  ⟨rfl, rfl, rfl, by simp [World.setCell], fun k _ hne => Below.heap_setCell w _ _ k (by intro e; exact hne (by rw [e]))⟩
theorem own_far {u : Value} {base : Nat} {t : TypeId} {s n : Nat} {xs : List Value} (h : w.ownsRow base t s u n xs) (hb : gb < base) : u.ownBlock = none ∨ u.ownBlock ≠ some gb := by
  right
  intro e
  have := (h.lt _ e).1
  omega
/-- both fields have been stored anew -/
theorem Two.store (h : Two w0 gb e1 e2 w x1 x2 v1 l1 v2 l2 ps es) (y1 y2 : Value) : Two w0 gb e1 e2 ((w.setCell ⟨gb, 0, none⟩ y1).setCell ⟨gb, 1, none⟩ y2) y1 y2 v1 l1 v2 l2 ps [] := by
  have hg := h.gt
  have hgr : w.grownBy ((w.setCell ⟨gb, 0, none⟩ y1).setCell ⟨gb, 1, none⟩ y2) (some gb) := (grown_set w gb 0 y1).trans (grown_set _ gb 1 y2)
  refine ⟨h.gt, h.fr.trans hgr, ?_, ?_, ?_, ?_, h.o1.kept hgr (own_far h.o1 hg), h.o2.kept hgr (own_far h.o2 hg), h.ap, fun p hp => ?_, fun e he => by simp at he⟩
  · rw [set_other (by intro e; injection e with _ e; omega)]
    exact set_same h.c0
  · refine set_same (u := x2) ?_
    rw [set_other (by intro e; injection e with _ e; omega)]
    exact h.c1
  · rw [World.frozen?_setCell, World.frozen?_setCell]; exact h.f0
  · rw [World.frozen?_setCell, World.frozen?_setCell]; exact h.f1
  · exact ⟨World.ownsRow.kept (h.lk p hp).1 hgr (own_far (h.lk p hp).1 hg), (h.lk p hp).2⟩
/-- one row of links more -/
theorem Two.link {p : Value × List Port} (h : Two w0 gb e1 e2 w x1 x2 v1 l1 v2 l2 ps es) (hp : LinkRow w0.heap.size w p.1 p.2 ∧ (p.1.ownBlock = none ∨ (p.1.ownBlock ≠ v1.ownBlock ∧ p.1.ownBlock ≠ v2.ownBlock))) : Two w0 gb e1 e2 w x1 x2 v1 l1 v2 l2 (ps ++ [p]) es :=
  ⟨h.gt, h.fr, h.c0, h.c1, h.f0, h.f1, h.o1, h.o2, h.ap, fun q hq => by
    rcases List.mem_append.1 hq with hq | hq
    · exact h.lk q hq
    · obtain rfl : q = p := by simpa using hq
      exact hp, h.el⟩
/-- a call that leaves all old memory as it was -/
theorem Two.below (h : Two w0 gb e1 e2 w x1 x2 v1 l1 v2 l2 ps es) (hb : Below w.heap.size w w') : Two w0 gb e1 e2 w' x1 x2 v1 l1 v2 l2 ps es := by
  have hsz := h.fr.size
  have hg := h.gt
  have hgr : ∀ row, w.grownBy w' row := fun row => ⟨hb.os, hb.tape, hb.output, hb.size, fun k hk _ => hb.block k hk⟩
  refine ⟨h.gt, h.fr.trans (hgr _), (hb.cell (p := ⟨gb, 0, none⟩) (by simp; omega)).trans h.c0, (hb.cell (p := ⟨gb, 1, none⟩) (by simp; omega)).trans h.c1, (hb.frozen (p := ⟨gb, 0, none⟩) (by simp; omega)).trans h.f0, (hb.frozen (p := ⟨gb, 1, none⟩) (by simp; omega)).trans h.f1, h.o1.kept (hgr none) (own_ne), h.o2.kept (hgr none) (own_ne), h.ap, fun p hp => ?_, fun e he => ?_⟩
  · exact ⟨World.ownsRow.kept (h.lk p hp).1 (hgr none) (own_ne), (h.lk p hp).2⟩
  · obtain ⟨h1, h2, h3, h4, h5⟩ := h.el e he
    exact ⟨(hb.cell (p := ⟨e.1, 0, none⟩) h3).trans h1, h2, Nat.lt_of_lt_of_le h3 hb.size, h4, h5⟩
end

section
variable {P : Program} {ops : Array Oper} {o : Oper} {a : Act} {w w0 : World} {K : Act → World → Prop} {Q : Exit → Act → World → Prop} {E : Prop}
  {gb : Nat} {e1 e2 : TypeId} {x1 x2 v1 v2 : Value} {l1 l2 : List Value} {ps : List (Value × List Port)} {es : List (Nat × Value)}

/-- append of one element to the first one, as a step of a region that draws its order -/
theorem step_two1 (hgd : o.guard = none) (s x : Operand) (t : TypeId) (ho : o.op = .call { callee := .builtin .append, args := #[s, x], argTypes := #[t, t] })
    (i : TypeInfo) (z : Value) (bytes : Nat) (ht : P.underlying t = some (.slice e1)) (hi : P.info? e1 = some i) (hz : i.zero = some z) (hsize : i.size = 1) (hby : i.bytes = bytes) (hzs : z.cells.size = 1)
    (nb : Nat) (u : Value) (hs : a.eval s = v1) (hx : a.eval x = .slice (some ⟨nb, 0, none⟩) 1 1) (h : Two w0 gb e1 e2 w x1 x2 v1 l1 v2 l2 ps es) (he : (nb, u) ∈ es) (hu : u.oneCell' = true)
    (h63 : l1.length + 1 ≤ 1000000) (hbytes : bytes ≤ 100)
    (hK : ∀ g cap w', Two w0 gb e1 e2 w' x1 x2 (.slice (some ⟨g, 0, none⟩) (l1.length + 1) cap) (l1 ++ [u]) v2 l2 ps es → K (a.put o.dst (.slice (some ⟨g, 0, none⟩) (l1.length + 1) cap)) w') :
    if Region.wanted o (yielded ops a.tmps) = true then Oper.wp P o a w K Q else E := by
  have hsz := h.fr.size
  refine step_append_lies w hgd s x t ho w0.heap.size e1 i z 1 bytes ht hi hz hsize hby hzs (by decide) v1 l1.length l1 hs h.o1 ⟨nb, 0, none⟩ 1 1 [u] hx rfl (fun j v hj => ?_) (fun v hv => by simp at hv; rw [hv]; exact hu) (by decide) (by unfold maxLen; omega)
    (Nat.le_trans (Nat.mul_le_mul h63 hbytes) (by decide)) hsz w.heap.size rfl fun g cap w' h1 h2 h3 _ => hK g cap w' (h.app1 (g := g) (by simpa using h1) h2 rfl h3)
  match j, hj with
  | 0, hj =>
    simp at hj
    subst hj
    rw [add_none]
    exact (h.el _ he).1
/-- append of one element to the second one -/
theorem step_two2 (hgd : o.guard = none) (s x : Operand) (t : TypeId) (ho : o.op = .call { callee := .builtin .append, args := #[s, x], argTypes := #[t, t] })
    (i : TypeInfo) (z : Value) (bytes : Nat) (ht : P.underlying t = some (.slice e2)) (hi : P.info? e2 = some i) (hz : i.zero = some z) (hsize : i.size = 1) (hby : i.bytes = bytes) (hzs : z.cells.size = 1)
    (nb : Nat) (u : Value) (hs : a.eval s = v2) (hx : a.eval x = .slice (some ⟨nb, 0, none⟩) 1 1) (h : Two w0 gb e1 e2 w x1 x2 v1 l1 v2 l2 ps es) (he : (nb, u) ∈ es) (hu : u.oneCell' = true)
    (h63 : l2.length + 1 ≤ 1000000) (hbytes : bytes ≤ 100)
    (hK : ∀ g cap w', Two w0 gb e1 e2 w' x1 x2 v1 l1 (.slice (some ⟨g, 0, none⟩) (l2.length + 1) cap) (l2 ++ [u]) ps es → K (a.put o.dst (.slice (some ⟨g, 0, none⟩) (l2.length + 1) cap)) w') :
    if Region.wanted o (yielded ops a.tmps) = true then Oper.wp P o a w K Q else E := by
  have hsz := h.fr.size
  refine step_append_lies w hgd s x t ho w0.heap.size e2 i z 1 bytes ht hi hz hsize hby hzs (by decide) v2 l2.length l2 hs h.o2 ⟨nb, 0, none⟩ 1 1 [u] hx rfl (fun j v hj => ?_) (fun v hv => by simp at hv; rw [hv]; exact hu) (by decide) (by unfold maxLen; omega)
    (Nat.le_trans (Nat.mul_le_mul h63 hbytes) (by decide)) hsz w.heap.size rfl fun g cap w' h1 h2 h3 _ => hK g cap w' (h.app2 (g := g) (by simpa using h1) h2 rfl h3)
  match j, hj with
  | 0, hj =>
    simp at hj
    subst hj
    rw [add_none]
    exact (h.el _ he).1
end
end Go.Proofs.Ytfbbkiibhdgojaa
