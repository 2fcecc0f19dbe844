/- What the laws of layer 3 share: the sanity check, the graph that an outcome holds, two boxes for graphs. -/
import Derived.Test.YtfbbkiibhdgojaaFamMath
import Derived.Test.YtfbbkiibhdgojaaSame
namespace Go.Proofs.Ytfbbkiibhdgojaa
open Go.RowKit

/-- the graph and the error of an outcome -/
def grO (o : Int ⊕ Gr) : Gr := match o with
  | .inl _ => ⟨[], []⟩
  | .inr G => G
def erO (o : Int ⊕ Gr) : Int := match o with
  | .inl k => k
  | .inr _ => 0
theorem noGraph (w : World) : GraphAt w none 0 none 0 ⟨[], []⟩ :=
  ⟨rfl, rfl, ⟨Nat.zero_le _, fun h => absurd h (by simp), by simp⟩, ⟨Nat.zero_le _, fun h => absurd h (by simp)⟩⟩
theorem OwnG.graph {B : Nat} {o : Int ⊕ Gr} {a1 a2 : Option Addr} {l1 c1 l2 c2 : Nat} {k : Int} {w : World} (h : OwnG B o (.slice a1 l1 c1) (.slice a2 l2 c2) k w) : GraphAt w a1 l1 a2 l2 (grO o) ∧ k = erO o := by
  cases o with
  | inl j =>
    obtain ⟨h1, h2, rfl⟩ := h
    injection h1 with e1 e2 e3
    injection h2 with e4 e5 e6
    subst e1 e2 e4 e5
    exact ⟨noGraph w, rfl⟩
  | inr G =>
    obtain ⟨rfl, us, hA, hp, hF⟩ := h
    obtain ⟨zs, ps⟩ := G
    dsimp only at hA hp hF
    subst hp
    obtain ⟨ia, ic, pa, pc, e1, e2, hG⟩ := apart_graph hA rfl hF
    injection e1 with e1 e3 e4
    injection e2 with e5 e6 e7
    subst e1 e3 e5 e6
    exact ⟨hG, rfl⟩
theorem OwnG.below {B : Nat} {o : Int ⊕ Gr} {v1 v2 : Value} {k : Int} {w w' : World} (h : OwnG B o v1 v2 k w) (hb : Below w.heap.size w w') : OwnG B o v1 v2 k w' := by
  cases o with
  | inl j => exact h
  | inr G =>
    obtain ⟨h0, us, hA, hp, hF⟩ := h
    exact ⟨h0, us, hA.far (row := none) ⟨hb.os, hb.tape, hb.output, hb.size, fun k hk _ => hb.block k hk⟩ (fun _ _ => own_ne), hp, hF⟩
theorem FamSays.graph {o : Int ⊕ Gr} {e : Ending} {w' : World} (h : FamSays o e w') : ∃ a1 l1 c1 a2 l2 c2, e = famRet (.slice a1 l1 c1) (.slice a2 l2 c2) (erO o) ∧ GraphAt w' a1 l1 a2 l2 (grO o) := by
  cases o with
  | inl k => exact ⟨none, 0, 0, none, 0, 0, h, noGraph _⟩
  | inr G =>
    obtain ⟨ia, il, ic, pa, pl, pc, e, hG⟩ := h
    exact ⟨ia, il, ic, pa, pl, pc, e, hG⟩

/-- Behind w: the struct at A holds xa0, xa1, that at B holds xb0, xb1. -/
structure Boxes (w wr : World) (A B : Nat) (xa0 xa1 xb0 xb1 : Value) : Prop where
  fr : Below w.heap.size w wr
  hA : w.heap.size ≤ A
  hB : w.heap.size ≤ B
  ne : A ≠ B
  a0 : wr.cell? ⟨A, 0, none⟩ = some xa0
  a1 : wr.cell? ⟨A, 1, none⟩ = some xa1
  b0 : wr.cell? ⟨B, 0, none⟩ = some xb0
  b1 : wr.cell? ⟨B, 1, none⟩ = some xb1
  fa0 : wr.frozen? ⟨A, 0, none⟩ = false
  fa1 : wr.frozen? ⟨A, 1, none⟩ = false
  fb0 : wr.frozen? ⟨B, 0, none⟩ = false
  fb1 : wr.frozen? ⟨B, 1, none⟩ = false
section
variable {w wr wr' : World} {A B : Nat} {xa0 xa1 xb0 xb1 : Value}
theorem Boxes.below (h : Boxes w wr A B xa0 xa1 xb0 xb1) (hb : Below wr.heap.size wr wr') : Boxes w wr' A B xa0 xa1 xb0 xb1 := by
  have l1 := cell_lt h.a0
  have l2 := cell_lt h.b0
  exact ⟨h.fr.trans (hb.mono h.fr.size), h.hA, h.hB, h.ne, (hb.cell (p := ⟨A, 0, none⟩) l1).trans h.a0, (hb.cell (p := ⟨A, 1, none⟩) l1).trans h.a1, (hb.cell (p := ⟨B, 0, none⟩) l2).trans h.b0, (hb.cell (p := ⟨B, 1, none⟩) l2).trans h.b1,
    (hb.frozen (p := ⟨A, 0, none⟩) l1).trans h.fa0, (hb.frozen (p := ⟨A, 1, none⟩) l1).trans h.fa1, (hb.frozen (p := ⟨B, 0, none⟩) l2).trans h.fb0, (hb.frozen (p := ⟨B, 1, none⟩) l2).trans h.fb1⟩
theorem Boxes.putA (h : Boxes w wr A B xa0 xa1 xb0 xb1) (y0 y1 : Value) : Boxes w ((wr.setCell ⟨A, 0, none⟩ y0).setCell ⟨A, 1, none⟩ y1) A B y0 y1 xb0 xb1 := by
  have hn := h.ne
  refine ⟨(h.fr.setCell h.hA _).setCell h.hA _, h.hA, h.hB, h.ne, ?_, ?_, ?_, ?_, ?_, ?_, ?_, ?_⟩
  · rw [set_other (by simp)]; exact set_same h.a0
  · exact set_same (by rw [set_other (by simp)]; exact h.a1)
  · rw [set_other (by simp <;> omega), set_other (by simp <;> omega)]; exact h.b0
  · rw [set_other (by simp <;> omega), set_other (by simp <;> omega)]; exact h.b1
  all_goals rw [World.frozen?_setCell, World.frozen?_setCell]
  · exact h.fa0
  · exact h.fa1
  · exact h.fb0
  · exact h.fb1
theorem Boxes.putB (h : Boxes w wr A B xa0 xa1 xb0 xb1) (y0 y1 : Value) : Boxes w ((wr.setCell ⟨B, 0, none⟩ y0).setCell ⟨B, 1, none⟩ y1) A B xa0 xa1 y0 y1 := by
  have hn := h.ne
  refine ⟨(h.fr.setCell h.hB _).setCell h.hB _, h.hA, h.hB, h.ne, ?_, ?_, ?_, ?_, ?_, ?_, ?_, ?_⟩
  · rw [set_other (by simp <;> omega), set_other (by simp <;> omega)]; exact h.a0
  · rw [set_other (by simp <;> omega), set_other (by simp <;> omega)]; exact h.a1
  · rw [set_other (by simp)]; exact set_same h.b0
  · exact set_same (by rw [set_other (by simp)]; exact h.b1)
  all_goals rw [World.frozen?_setCell, World.frozen?_setCell]
  · exact h.fa0
  · exact h.fa1
  · exact h.fb0
  · exact h.fb1
/-- the two structs, made one after the other, each behind a call -/
theorem Boxes.make {w w1 w2 : World} {y0 y1 z0 z1 : Value} {t u : TypeId} (h1 : Below w.heap.size w w1) (h2 : Below (w1.alloc (.cells #[y0, y1] t)).heap.size (w1.alloc (.cells #[y0, y1] t)) w2) :
    Boxes w (w2.alloc (.cells #[z0, z1] u)) w1.heap.size w2.heap.size y0 y1 z0 z1 := by
  have hs1 := h1.size
  have hs2 : w1.heap.size + 1 ≤ w2.heap.size := by simpa using h2.size
  have h0 : Below w.heap.size w w2 := (h1.alloc (h1.size) _).trans (h2.mono (by simp; omega))
  have b2 : Below (w1.alloc (.cells #[y0, y1] t)).heap.size (w1.alloc (.cells #[y0, y1] t)) (w2.alloc (.cells #[z0, z1] u)) := h2.alloc h2.size _
  refine ⟨h0.alloc (by omega) _, hs1, by omega, by omega, ?_, ?_, ?_, ?_, ?_, ?_, ?_, ?_⟩
  · rw [b2.cell (p := ⟨w1.heap.size, 0, none⟩) (by simp)]; simp [cell_push0]
  · rw [b2.cell (p := ⟨w1.heap.size, 1, none⟩) (by simp)]; simp [cell_push0]
  · simp [cell_push0]
  · simp [cell_push0]
  · rw [b2.frozen (p := ⟨w1.heap.size, 0, none⟩) (by simp)]; simp [free_push0]
  · rw [b2.frozen (p := ⟨w1.heap.size, 1, none⟩) (by simp)]; simp [free_push0]
  · simp [free_push0]
  · simp [free_push0]
end

/-! ### The sanity check -/
theorem ring3 : ringR 3 0 = [(2, 1), (1, 1)] := by decide
set_option maxHeartbeats 2000000 in
theorem awake_any (w : World) : Calls Try.prog 6 #[] w fun e w' => e = .returned (.bool true) ∧ Below w.heap.size w w' := by
  have hr := ringP_ok 3 w (by decide) (by decide)
  go_enter Try.func6, Try.ntmps6
  go_wp2_with fail
  refine hr.mono ?_
  rintro e w1 ⟨hF, hb1⟩
  obtain ⟨a1, l1, c1, a2, l2, c2, rfl, hG⟩ := hF.says.graph
  have hl : l2 = 3 := hG.pl
  subst hl
  obtain ⟨pb, po, rfl, hpb, hrow⟩ := hG.ports.row (by simp [grO, famG])
  obtain ⟨la, lc, hcl, hL⟩ := hrow 0 (by simp [grO, famG])
  have e0 : rowA (grO (.inr (famG 3 (ringR 3)))).ps 0 = [(2, 1), (1, 1)] := by simp [grO, famG, rowA, List.range_succ]; exact ring3
  rw [e0] at hcl hL
  obtain ⟨lb, lo, rfl, hlb, hcs⟩ := hL.row (by simp)
  have hx := (hcs 0 (by simp)).1
  have hy := (hcs 1 (by simp)).1
  clear hcs hrow hL
  unfold famRet
  have hB : Below w1.heap.size w1 (w1.alloc (.cells #[.slice a1 l1 c1, .slice (some ⟨pb, po, none⟩) 3 c2] 25)) := (Below.refl _ _).alloc (Nat.le_refl _) _
  have g1 := (hB.cell (p := ⟨pb, po + 0, none⟩) hpb).trans hcl
  have g2 := (hB.cell (p := ⟨lb, lo + 0 * 2, none⟩) hlb).trans hx
  have g3 := (hB.cell (p := ⟨lb, lo + 1 * 2, none⟩) hlb).trans hy
  simp only [Nat.zero_mul, Nat.add_zero, Nat.one_mul, List.length_cons, List.length_nil, Nat.zero_add, Nat.reduceAdd, toA] at g1 g2 g3
  simp at g1 g2 g3
  clear hcl hx hy
  go_wp2_with fail
  go_ret
  exact ⟨rfl, hb1.alloc hb1.size _⟩
end Go.Proofs.Ytfbbkiibhdgojaa
