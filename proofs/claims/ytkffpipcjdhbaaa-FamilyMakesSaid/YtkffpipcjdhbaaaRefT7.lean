/- What Parse of the specification of layer 2 answers: a text that is too long; how a result that lies in a cell is returned. -/
import Derived.Test.YtkffpipcjdhbaaaBridge
namespace Go.Proofs.Ytkffpipcjdhbaaa
open Go.RowKit

theorem results_ctt {fn : Func} {p u v : Tmp} {ty : TypeId} (h : fn.results = #[.cell p ty, .tmp u, .tmp v]) (tmps : Array Value) (P : Program) (w : World) :
    (results fn tmps).run P w =
      ((asAddr (tmps.getD p undef)).run P w).andThen fun a w₁ => ((loadVar ty a).run P w₁).andThen fun x w₂ => .ok (.tuple #[x, tmps.getD u undef, tmps.getD v undef]) w₂ := by
  simp only [results, h]
  simp [Sem.run_bind, Result.andThen]

end Go.Proofs.Ytkffpipcjdhbaaa
