/- What Text of the specification of layer 6 answers: two and three operands; all; Format. -/
import Derived.Test.YtdbahiepihkagaaDoorExprPlace
import Derived.Test.YtdbahiepihkagaaDoorCur
import Derived.Test.YtdbahiepihkagaaDoorTermMost
namespace Go.Proofs.YtdbahiepihkagaaDoor
set_option maxRecDepth 100000
open Go.RowKit

/-- an expression and names in memory -/
structure Src where
  w : World
  b : Nat
  o : Nat
  c : Nat
  xs : List (Int × Int)
  na : Option Addr
  nc : Nat
  ns : List Bytes
structure Src.Ok (S : Src) : Prop where
  links : LinksAt S.w (some ⟨S.b, S.o, none⟩) S.xs
  names : NamesAt S.w S.na S.ns
  good : goodF S.ns = true
  few : S.xs.length ≤ 1000
theorem Src.Ok.cells {S : Src} (h : S.Ok) {p : Nat} {x : Ex} (hs : Sits S.xs p x) {W : World} (hb : Below S.w.heap.size S.w W) :
    W.cell? ⟨S.b, S.o + p * 2, none⟩ = some (.int .i64 x.top.1) ∧ W.cell? ⟨S.b, S.o + p * 2 + 1, none⟩ = some (.int .i64 x.top.2) := by
  have hl := hs.lt
  obtain ⟨b, o, e, _, hc⟩ := (h.links.below hb).row (by omega)
  injection e with e
  injection e with e1 e2
  rw [e1, e2, ← hs.top.1, ← hs.top.2]
  exact hc p hl
theorem agg_no {op : Int} (h : ¬ (20 ≤ op ∧ op ≤ 29)) : aggF op = false := decide_eq_false h
theorem agg_yes {op : Int} (h : 20 ≤ op ∧ op ≤ 29) : aggF op = true := decide_eq_true h
end Go.Proofs.YtdbahiepihkagaaDoor
namespace Go.Proofs.YtdbahiepihkagaaDoor
set_option maxRecDepth 100000
open Go.RowKit

end Go.Proofs.YtdbahiepihkagaaDoor
namespace Go.Proofs.YtdbahiepihkagaaDoor
set_option maxRecDepth 100000
open Go.RowKit

end Go.Proofs.YtdbahiepihkagaaDoor
