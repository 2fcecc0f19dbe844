/- What Size of package graph answers. -/
import Derived.Test.YtkffpipcjdhbaaaGraph9
import Derived.Deep.RegionHeld3
namespace Go.Proofs.Ytkffpipcjdhbaaa
open Go.RowKit Go.Maps

theorem LinkMap.len {w : World} {b : Nat} {L : List (Nat × Nat)} (h : LinkMap w b L) : ∃ D : DataW Unit, w.ownsMap Try.prog 84 (plainElem Try.prog 4) b L.length D ∧ Maps.size D = L.length := by
  obtain ⟨_, _, D, h3, h4, _⟩ := h
  exact ⟨D, h3, h4⟩

/-- 'len(m)' of a map of links, in a region that draws -/
theorem step_len_links {ops : Array Oper} {o : Oper} {a : Act} {w : World} {K : Act → World → Prop} {Q : Exit → Act → World → Prop} {E : Prop} (hgd : o.guard = none) (m : Operand)
    (ho : o.op = .call { callee := .builtin .len, args := #[m], argTypes := #[75] }) (b n : Nat) (D : DataW Unit) (hm : a.eval m = .map (some b)) (L : Nat)
    (hown : w.ownsMap Try.prog 84 (plainElem Try.prog 4) b n D) (hL : Maps.size D = L) (h : K (a.put o.dst (.int .i64 (L : Int))) w) :
    if Region.wanted o (yielded ops a.tmps) = true then Oper.wp Try.prog o a w K Q else E := by
  have hw : Region.wanted o (yielded ops a.tmps) = true := by simp [Region.wanted, hgd]
  rw [if_pos hw]
  have hrun := hown.len mapUnder o.type
  rw [hL] at hrun
  unfold Oper.wp
  simp [execOp, ho, resolve, invoke, builtin, hm, hrun, Result.andThen]
  exact h

/-- the numbers of nodes and links of a valid graph, else noughts -/
noncomputable def nodesF (G : Gr) : Int := if validB G then G.ps.length else 0
noncomputable def linksF (G : Gr) : Int := if validB G then (allLinks G G.ps.length).length else 0

theorem ret_two {a b c d : Int} (h : a = c) (h' : b = d) : Ending.returned (.tuple #[.int .i64 a, .int .i64 b]) = .returned (.tuple #[.int .i64 c, .int .i64 d]) := by rw [h, h']

set_option maxHeartbeats 1000000 in
theorem size_any (ia pa : Option Addr) (il ic pl pc : Nat) (G : Gr) (w : World) (hG : GraphAt w ia il pa pl G) :
    Calls Try.prog 63 #[.agg #[.slice ia il ic, .slice pa pl pc]] w fun e w' => e = .returned (.tuple #[.int .i64 (nodesF G), .int .i64 (linksF G)]) ∧ Below w.heap.size w w' := by
  have Hpl := Lib.hid hG.pl
  cases hv : validB G with
  | false =>
    have Hf : Hid (nodesF G = 0) := Lib.hid (by simp [nodesF, hv])
    have Hf2 : Hid (linksF G = 0) := Lib.hid (by simp [linksF, hv])
    go_enter Try.func63, Try.ntmps63
    go_wp2_with (go_at_call 51; refine (valid_any _ _ _ _ _ _ G _ (hG.alloc _)).mono ?_; rintro e w1 ⟨rfl, hb1⟩)
    go_ret2
    exact ⟨ret_two Hf.out.symm Hf2.out.symm, ((Below.refl _ _).alloc (Nat.le_refl _) _).trans (hb1.mono (by simp))⟩
  | true =>
    have HV := Lib.hid (validB_iff.1 hv)
    have Hf : Hid (nodesF G = pl) := Lib.hid (by simp [nodesF, hv, Hpl.out])
    have Hf2 : Hid (linksF G = (allLinks G pl).length) := Lib.hid (by simp [linksF, hv, Hpl.out])
    go_enter Try.func63, Try.ntmps63
    go_wp2_with (go_at_call 51; refine (valid_any _ _ _ _ _ _ G _ (hG.alloc _)).mono ?_; rintro e w1 ⟨rfl, hb1⟩; have hbx : Below (w.heap.size + 1) (w.alloc (.cells #[.slice ia il ic, .slice pa pl pc] 26)) w1 := hb1.mono (by simp); have hx0 : w1.cell? ⟨w.heap.size, 0, none⟩ = some (.slice ia il ic) := boxed hbx 0; have hx1 : w1.cell? ⟨w.heap.size, 1, none⟩ = some (.slice pa pl pc) := boxed hbx 1)
    have hbxd := hbx.drew
    go_region_with (first | (go_at_call 75; (with_reducible refine (linksOf_any _ _ _ _ _ _ G _ ?_ HV.out).mono ?_); exact hG.below (belBox hbxd); rintro e w2 ⟨⟨b, rfl, hbge, hM⟩, hb2⟩; have hbx2 := hbxd.trans (hb2.mono (Nat.le_trans (by simp) hbxd.size)); have hx20 : w2.cell? ⟨w.heap.size, 0, none⟩ = some (.slice ia il ic) := boxed hbx2 0; have hx21 : w2.cell? ⟨w.heap.size, 1, none⟩ = some (.slice pa pl pc) := boxed hbx2 1; obtain ⟨D, hown, hsz⟩ := hM.len; have hlen := fun ty => hown.len mapUnder ty; rw [hsz] at hlen) | go_in)
    all_goals
      go_wp2
      go_ret2
      exact ⟨ret_two Hf.out.symm Hf2.out.symm, belBox hbx2⟩
end Go.Proofs.Ytkffpipcjdhbaaa
