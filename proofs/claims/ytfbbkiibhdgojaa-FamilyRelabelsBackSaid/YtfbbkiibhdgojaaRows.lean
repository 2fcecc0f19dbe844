/-
  No cell of these rows narrows 'for every input' (looked for: loops, veiled, ifaces, maps, wideKeys, modest, calm, conditions, laid).
  DERIVED. THE GIVEN ROWS OF THIS SEAT. 2 by the template 'for every input the law returns true; each argument reads behind the call as it read before'; 0 by the template 'total and deterministic' (their statements: YtfbbkiibhdgojaaTotals.lean).
  GIVEN WITH THE SEED: the statements are not yours to turn. If you find one false, say at which input.
  Laid BY PROGRAM, IN A SANDBOX (cutbox-rows.mjs): the forced cells as the released guide's own fill.sh prints them over the translation 556d18e67321d91d… (all of the seat's roots in one cut). By AI agents, Wed Nov 11 2026. No macro, syntax, notation, axiom, sorry.
-/
import Derived.Test.YtfbbkiibhdgojaaChecked
import GoSem.Claim
import GoSem.ClaimJoined
import GoSem.ClaimMapViews
import Derived.JoinedTies
import Derived.KernelRfl
namespace Go.Proofs.Ytfbbkiibhdgojaa
/- THE CELL 'sum', in the pinned program and in every row, IS THE sha256 OF THE DUMP (.gsa) THAT YtfbbkiibhdgojaaProg.lean LOADS. Nothing in Lean hashes anything: it is a label: what it is worth is what the hold of that sum in a sandbox is worth. -/
noncomputable def Try.pinned : Pinned := { name := "ytfbbkiibhdgojaa", sum := "556d18e67321d91da52858df3c592c7de9f12f15273b5999290350c6097ab44d", checked := Try.checked }
namespace Rows
def none {H : Type} : Left H := { results := [], args := [] }

/-- 'selfstablaw03.FamilyRenames': WHATEVER THE INPUT: true; the input reads as it did. -/
def familyRenamesSpec : ChangeSpec := { name := "familyRenames", fn := fun _ => fun
  | [d1, d2, d3] => { results := [.lit (.bool true)], args := [d1, d2, d3] }
  | _ => none }
def familyRenamesRow : OpenClaim := { program := "ytfbbkiibhdgojaa", sum := "556d18e67321d91da52858df3c592c7de9f12f15273b5999290350c6097ab44d", func := "selfstab/selfstablaw03.FamilyRenames", spec := "familyRenames", unfollowed := true, recurses := true, apart := false }
def FamilyRenamesSaid : Prop := familyRenamesRow.holds Try.pinned (OpenSpec.ofChange familyRenamesSpec)

/-- ITS FALSE NEIGHBOUR: 'it returns false'. Refute it at one input. -/
def familyRenamesWrong : ChangeSpec := { name := "familyRenames", fn := fun _ => fun
  | [d1, d2, d3] => { results := [.lit (.bool false)], args := [d1, d2, d3] }
  | _ => none }
def FamilyRenamesWrongFalsely : Prop := familyRenamesRow.holds Try.pinned (OpenSpec.ofChange familyRenamesWrong)

/-- 'selfstablaw03.FamilyRelabelsBack': WHATEVER THE INPUT: true; the input reads as it did. -/
def familyRelabelsBackSpec : ChangeSpec := { name := "familyRelabelsBack", fn := fun _ => fun
  | [d1, d2, d3] => { results := [.lit (.bool true)], args := [d1, d2, d3] }
  | _ => none }
def familyRelabelsBackRow : OpenClaim := { program := "ytfbbkiibhdgojaa", sum := "556d18e67321d91da52858df3c592c7de9f12f15273b5999290350c6097ab44d", func := "selfstab/selfstablaw03.FamilyRelabelsBack", spec := "familyRelabelsBack", unfollowed := true, recurses := true, apart := false }
def FamilyRelabelsBackSaid : Prop := familyRelabelsBackRow.holds Try.pinned (OpenSpec.ofChange familyRelabelsBackSpec)

/-- ITS FALSE NEIGHBOUR: 'it returns false'. Refute it at one input. -/
def familyRelabelsBackWrong : ChangeSpec := { name := "familyRelabelsBack", fn := fun _ => fun
  | [d1, d2, d3] => { results := [.lit (.bool false)], args := [d1, d2, d3] }
  | _ => none }
def FamilyRelabelsBackWrongFalsely : Prop := familyRelabelsBackRow.holds Try.pinned (OpenSpec.ofChange familyRelabelsBackWrong)

/- THE SECOND FORM. 'bulk': how many values and letters a reading holds, each counted each time it is reached (what is shared counts as often as it is met; a slice's spare places count too). A statement '..UptoSaid' is the law's where the arguments, and the package variables that the reading takes, are together of bulk at most 1048576: NARROWER than '..Said'. Prove '..Said' where nothing that the law and all that it calls make is longer than what came in: it says more and counts as full. Else prove '..UptoSaid'. A law counts once. -/
mutual
def uptoBulk {H : Type} : DataW H → Nat
  | .lit (.string bytes) => bytes.length + 1
  | .lit _ => 1
  | .nil => 1
  | .ptr d => uptoBulk d + 1
  | .slice elems spare => uptoBulkAll elems + uptoBulkAll spare + 1
  | .agg parts => uptoBulkAll parts + 1
  | .iface _ d => uptoBulk d + 1
  | .map entries => uptoBulkEntries entries + 1
  | .held _ => 1
def uptoBulkAll {H : Type} : List (DataW H) → Nat
  | [] => 0
  | d :: r => uptoBulk d + uptoBulkAll r
def uptoBulkEntries {H : Type} : List (Lit × DataW H) → Nat
  | [] => 0
  | x :: r => uptoBulkEntry x + uptoBulkEntries r
def uptoBulkEntry {H : Type} : Lit × DataW H → Nat
  | (.string bytes, d) => bytes.length + uptoBulk d + 1
  | (_, d) => uptoBulk d + 1
 end
def uptoSmall : (H : Type) → List (DataW H) → Bool := fun _ ds => decide (uptoBulkAll ds ≤ 1048576)
def OpenSpec.upto (s : _root_.Go.ChangeSpec) : _root_.Go.OpenSpec := { _root_.Go.OpenSpec.ofChange s with cond := some uptoSmall }

/-- 'selfstablaw03.FamilyRenames', WHERE WHAT IT READS IS OF BULK AT MOST 1048576: true; the input reads as it did. -/
def familyRenamesUptoRow : OpenClaim := { program := "ytfbbkiibhdgojaa", sum := "556d18e67321d91da52858df3c592c7de9f12f15273b5999290350c6097ab44d", func := "selfstab/selfstablaw03.FamilyRenames", spec := "familyRenames", unfollowed := true, recurses := true, apart := false, narrowed := true }
def FamilyRenamesUptoSaid : Prop := familyRenamesUptoRow.holds Try.pinned (OpenSpec.upto familyRenamesSpec)

/-- 'selfstablaw03.FamilyRelabelsBack', WHERE WHAT IT READS IS OF BULK AT MOST 1048576: true; the input reads as it did. -/
def familyRelabelsBackUptoRow : OpenClaim := { program := "ytfbbkiibhdgojaa", sum := "556d18e67321d91da52858df3c592c7de9f12f15273b5999290350c6097ab44d", func := "selfstab/selfstablaw03.FamilyRelabelsBack", spec := "familyRelabelsBack", unfollowed := true, recurses := true, apart := false, narrowed := true }
def FamilyRelabelsBackUptoSaid : Prop := familyRelabelsBackUptoRow.holds Try.pinned (OpenSpec.upto familyRelabelsBackSpec)

end Rows
end Go.Proofs.Ytfbbkiibhdgojaa
