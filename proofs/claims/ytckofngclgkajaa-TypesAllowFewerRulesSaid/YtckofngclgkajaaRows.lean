/-
  No cell of these rows narrows 'for every input' (looked for: loops, veiled, ifaces, maps, wideKeys, modest, calm, conditions, laid).
  DERIVED. THE GIVEN ROWS OF THIS SEAT. 8 by the template 'for every input the law returns true; each argument reads behind the call as it read before'; 0 by the template 'total and deterministic' (their statements: YtckofngclgkajaaTotals.lean).
  GIVEN WITH THE SEED: the statements are not yours to turn. If you find one false, say at which input.
  Laid BY PROGRAM, IN A SANDBOX (cutbox-rows.mjs): the forced cells as the released guide's own fill.sh prints them over the translation bd3ccd734cc83348… (all of the seat's roots in one cut). By AI agents, Wed Nov 11 2026. No macro, syntax, notation, axiom, sorry.
-/
import Derived.Test.YtckofngclgkajaaChecked
import GoSem.Claim
import GoSem.ClaimJoined
import GoSem.ClaimMapViews
import Derived.JoinedTies
import Derived.KernelRfl
namespace Go.Proofs.Ytckofngclgkajaa
/- THE CELL 'sum', in the pinned program and in every row, IS THE sha256 OF THE DUMP (.gsa) THAT YtckofngclgkajaaProg.lean LOADS. Nothing in Lean hashes anything: it is a label: what it is worth is what the hold of that sum in a sandbox is worth. -/
noncomputable def Try.pinned : Pinned := { name := "ytckofngclgkajaa", sum := "bd3ccd734cc833486b80c911cf187c4466c907bcbad6db90839ef635d5868f98", checked := Try.checked }
namespace Rows
def none {H : Type} : Left H := { results := [], args := [] }

/-- 'selfstablaw07.TypesFind': WHATEVER THE INPUT: true; the input reads as it did. -/
def typesFindSpec : ChangeSpec := { name := "typesFind", fn := fun _ => fun
  | [d1, d2, d3] => { results := [.lit (.bool true)], args := [d1, d2, d3] }
  | _ => none }
def typesFindRow : OpenClaim := { program := "ytckofngclgkajaa", sum := "bd3ccd734cc833486b80c911cf187c4466c907bcbad6db90839ef635d5868f98", func := "selfstab/selfstablaw07.TypesFind", spec := "typesFind", unfollowed := true, recurses := true, apart := false }
def TypesFindSaid : Prop := typesFindRow.holds Try.pinned (OpenSpec.ofChange typesFindSpec)

/-- ITS FALSE NEIGHBOUR: 'it returns false'. Refute it at one input. -/
def typesFindWrong : ChangeSpec := { name := "typesFind", fn := fun _ => fun
  | [d1, d2, d3] => { results := [.lit (.bool false)], args := [d1, d2, d3] }
  | _ => none }
def TypesFindWrongFalsely : Prop := typesFindRow.holds Try.pinned (OpenSpec.ofChange typesFindWrong)

/-- 'selfstablaw07.TypesCheck': WHATEVER THE INPUT: true; the input reads as it did. -/
def typesCheckSpec : ChangeSpec := { name := "typesCheck", fn := fun _ => fun
  | [d] => { results := [.lit (.bool true)], args := [d] }
  | _ => none }
def typesCheckRow : OpenClaim := { program := "ytckofngclgkajaa", sum := "bd3ccd734cc833486b80c911cf187c4466c907bcbad6db90839ef635d5868f98", func := "selfstab/selfstablaw07.TypesCheck", spec := "typesCheck", unfollowed := true, recurses := true, apart := false }
def TypesCheckSaid : Prop := typesCheckRow.holds Try.pinned (OpenSpec.ofChange typesCheckSpec)

/-- ITS FALSE NEIGHBOUR: 'it returns false'. Refute it at one input. -/
def typesCheckWrong : ChangeSpec := { name := "typesCheck", fn := fun _ => fun
  | [d] => { results := [.lit (.bool false)], args := [d] }
  | _ => none }
def TypesCheckWrongFalsely : Prop := typesCheckRow.holds Try.pinned (OpenSpec.ofChange typesCheckWrong)

/-- 'selfstablaw07.TypesOfParts': WHATEVER THE INPUT: true; the input reads as it did. -/
def typesOfPartsSpec : ChangeSpec := { name := "typesOfParts", fn := fun _ => fun
  | [d1, d2, d3] => { results := [.lit (.bool true)], args := [d1, d2, d3] }
  | _ => none }
def typesOfPartsRow : OpenClaim := { program := "ytckofngclgkajaa", sum := "bd3ccd734cc833486b80c911cf187c4466c907bcbad6db90839ef635d5868f98", func := "selfstab/selfstablaw07.TypesOfParts", spec := "typesOfParts", unfollowed := true, recurses := true, apart := false }
def TypesOfPartsSaid : Prop := typesOfPartsRow.holds Try.pinned (OpenSpec.ofChange typesOfPartsSpec)

/-- ITS FALSE NEIGHBOUR: 'it returns false'. Refute it at one input. -/
def typesOfPartsWrong : ChangeSpec := { name := "typesOfParts", fn := fun _ => fun
  | [d1, d2, d3] => { results := [.lit (.bool false)], args := [d1, d2, d3] }
  | _ => none }
def TypesOfPartsWrongFalsely : Prop := typesOfPartsRow.holds Try.pinned (OpenSpec.ofChange typesOfPartsWrong)

/-- 'selfstablaw07.TypesKeepWithABound': WHATEVER THE INPUT: true; the input reads as it did. -/
def typesKeepWithABoundSpec : ChangeSpec := { name := "typesKeepWithABound", fn := fun _ => fun
  | [d1, d2] => { results := [.lit (.bool true)], args := [d1, d2] }
  | _ => none }
def typesKeepWithABoundRow : OpenClaim := { program := "ytckofngclgkajaa", sum := "bd3ccd734cc833486b80c911cf187c4466c907bcbad6db90839ef635d5868f98", func := "selfstab/selfstablaw07.TypesKeepWithABound", spec := "typesKeepWithABound", unfollowed := true, recurses := true, apart := false }
def TypesKeepWithABoundSaid : Prop := typesKeepWithABoundRow.holds Try.pinned (OpenSpec.ofChange typesKeepWithABoundSpec)

/-- ITS FALSE NEIGHBOUR: 'it returns false'. Refute it at one input. -/
def typesKeepWithABoundWrong : ChangeSpec := { name := "typesKeepWithABound", fn := fun _ => fun
  | [d1, d2] => { results := [.lit (.bool false)], args := [d1, d2] }
  | _ => none }
def TypesKeepWithABoundWrongFalsely : Prop := typesKeepWithABoundRow.holds Try.pinned (OpenSpec.ofChange typesKeepWithABoundWrong)

/-- 'selfstablaw07.TypesIgnoreNumbers': WHATEVER THE INPUT: true; the input reads as it did. -/
def typesIgnoreNumbersSpec : ChangeSpec := { name := "typesIgnoreNumbers", fn := fun _ => fun
  | [d1, d2, d3, d4] => { results := [.lit (.bool true)], args := [d1, d2, d3, d4] }
  | _ => none }
def typesIgnoreNumbersRow : OpenClaim := { program := "ytckofngclgkajaa", sum := "bd3ccd734cc833486b80c911cf187c4466c907bcbad6db90839ef635d5868f98", func := "selfstab/selfstablaw07.TypesIgnoreNumbers", spec := "typesIgnoreNumbers", unfollowed := true, recurses := true, apart := false }
def TypesIgnoreNumbersSaid : Prop := typesIgnoreNumbersRow.holds Try.pinned (OpenSpec.ofChange typesIgnoreNumbersSpec)

/-- ITS FALSE NEIGHBOUR: 'it returns false'. Refute it at one input. -/
def typesIgnoreNumbersWrong : ChangeSpec := { name := "typesIgnoreNumbers", fn := fun _ => fun
  | [d1, d2, d3, d4] => { results := [.lit (.bool false)], args := [d1, d2, d3, d4] }
  | _ => none }
def TypesIgnoreNumbersWrongFalsely : Prop := typesIgnoreNumbersRow.holds Try.pinned (OpenSpec.ofChange typesIgnoreNumbersWrong)

/-- 'selfstablaw07.TypesFollowRenaming': WHATEVER THE INPUT: true; the input reads as it did. -/
def typesFollowRenamingSpec : ChangeSpec := { name := "typesFollowRenaming", fn := fun _ => fun
  | [d1, d2, d3, d4] => { results := [.lit (.bool true)], args := [d1, d2, d3, d4] }
  | _ => none }
def typesFollowRenamingRow : OpenClaim := { program := "ytckofngclgkajaa", sum := "bd3ccd734cc833486b80c911cf187c4466c907bcbad6db90839ef635d5868f98", func := "selfstab/selfstablaw07.TypesFollowRenaming", spec := "typesFollowRenaming", unfollowed := true, recurses := true, apart := false }
def TypesFollowRenamingSaid : Prop := typesFollowRenamingRow.holds Try.pinned (OpenSpec.ofChange typesFollowRenamingSpec)

/-- ITS FALSE NEIGHBOUR: 'it returns false'. Refute it at one input. -/
def typesFollowRenamingWrong : ChangeSpec := { name := "typesFollowRenaming", fn := fun _ => fun
  | [d1, d2, d3, d4] => { results := [.lit (.bool false)], args := [d1, d2, d3, d4] }
  | _ => none }
def TypesFollowRenamingWrongFalsely : Prop := typesFollowRenamingRow.holds Try.pinned (OpenSpec.ofChange typesFollowRenamingWrong)

/-- 'selfstablaw07.TypesAllowFewerRules': WHATEVER THE INPUT: true; the input reads as it did. -/
def typesAllowFewerRulesSpec : ChangeSpec := { name := "typesAllowFewerRules", fn := fun _ => fun
  | [d1, d2, d3] => { results := [.lit (.bool true)], args := [d1, d2, d3] }
  | _ => none }
def typesAllowFewerRulesRow : OpenClaim := { program := "ytckofngclgkajaa", sum := "bd3ccd734cc833486b80c911cf187c4466c907bcbad6db90839ef635d5868f98", func := "selfstab/selfstablaw07.TypesAllowFewerRules", spec := "typesAllowFewerRules", unfollowed := true, recurses := true, apart := false }
def TypesAllowFewerRulesSaid : Prop := typesAllowFewerRulesRow.holds Try.pinned (OpenSpec.ofChange typesAllowFewerRulesSpec)

/-- ITS FALSE NEIGHBOUR: 'it returns false'. Refute it at one input. -/
def typesAllowFewerRulesWrong : ChangeSpec := { name := "typesAllowFewerRules", fn := fun _ => fun
  | [d1, d2, d3] => { results := [.lit (.bool false)], args := [d1, d2, d3] }
  | _ => none }
def TypesAllowFewerRulesWrongFalsely : Prop := typesAllowFewerRulesRow.holds Try.pinned (OpenSpec.ofChange typesAllowFewerRulesWrong)

/-- 'selfstablaw07.TypesRefuseChanges': WHATEVER THE INPUT: true; the input reads as it did. -/
def typesRefuseChangesSpec : ChangeSpec := { name := "typesRefuseChanges", fn := fun _ => fun
  | [d1, d2] => { results := [.lit (.bool true)], args := [d1, d2] }
  | _ => none }
def typesRefuseChangesRow : OpenClaim := { program := "ytckofngclgkajaa", sum := "bd3ccd734cc833486b80c911cf187c4466c907bcbad6db90839ef635d5868f98", func := "selfstab/selfstablaw07.TypesRefuseChanges", spec := "typesRefuseChanges", unfollowed := true, recurses := true, apart := false }
def TypesRefuseChangesSaid : Prop := typesRefuseChangesRow.holds Try.pinned (OpenSpec.ofChange typesRefuseChangesSpec)

/-- ITS FALSE NEIGHBOUR: 'it returns false'. Refute it at one input. -/
def typesRefuseChangesWrong : ChangeSpec := { name := "typesRefuseChanges", fn := fun _ => fun
  | [d1, d2] => { results := [.lit (.bool false)], args := [d1, d2] }
  | _ => none }
def TypesRefuseChangesWrongFalsely : Prop := typesRefuseChangesRow.holds Try.pinned (OpenSpec.ofChange typesRefuseChangesWrong)

/- THE SECOND FORM. 'bulk': how many values and letters a reading holds, each counted each time it is reached (what is shared counts as often as it is met; a slice's spare places count too). A statement '..UptoSaid' is the law's where the arguments, and the package variables that the reading takes, are together of bulk at most 1048576: NARROWER than '..Said'. Prove '..Said' where nothing that the law and all that it calls make is longer than what came in: it says more and counts as full. Else prove '..UptoSaid'. A law counts once. -/
mutual
def uptoBulk {H : Type} : DataW H → Nat
  | .lit (.string bytes) => bytes.length + 1
  | .lit _ => 1
  | .nil => 1
  | .ptr d => uptoBulk d + 1
  | .slice elems spare => uptoBulkAll elems + uptoBulkAll spare + 1
  | .agg parts => uptoBulkAll parts + 1
  | .iface _ d => uptoBulk d + 1
  | .map entries => uptoBulkEntries entries + 1
  | .held _ => 1
def uptoBulkAll {H : Type} : List (DataW H) → Nat
  | [] => 0
  | d :: r => uptoBulk d + uptoBulkAll r
def uptoBulkEntries {H : Type} : List (Lit × DataW H) → Nat
  | [] => 0
  | x :: r => uptoBulkEntry x + uptoBulkEntries r
def uptoBulkEntry {H : Type} : Lit × DataW H → Nat
  | (.string bytes, d) => bytes.length + uptoBulk d + 1
  | (_, d) => uptoBulk d + 1
 end
def uptoSmall : (H : Type) → List (DataW H) → Bool := fun _ ds => decide (uptoBulkAll ds ≤ 1048576)
def OpenSpec.upto (s : _root_.Go.ChangeSpec) : _root_.Go.OpenSpec := { _root_.Go.OpenSpec.ofChange s with cond := some uptoSmall }

/-- 'selfstablaw07.TypesFind', WHERE WHAT IT READS IS OF BULK AT MOST 1048576: true; the input reads as it did. -/
def typesFindUptoRow : OpenClaim := { program := "ytckofngclgkajaa", sum := "bd3ccd734cc833486b80c911cf187c4466c907bcbad6db90839ef635d5868f98", func := "selfstab/selfstablaw07.TypesFind", spec := "typesFind", unfollowed := true, recurses := true, apart := false, narrowed := true }
def TypesFindUptoSaid : Prop := typesFindUptoRow.holds Try.pinned (OpenSpec.upto typesFindSpec)

/-- 'selfstablaw07.TypesCheck', WHERE WHAT IT READS IS OF BULK AT MOST 1048576: true; the input reads as it did. -/
def typesCheckUptoRow : OpenClaim := { program := "ytckofngclgkajaa", sum := "bd3ccd734cc833486b80c911cf187c4466c907bcbad6db90839ef635d5868f98", func := "selfstab/selfstablaw07.TypesCheck", spec := "typesCheck", unfollowed := true, recurses := true, apart := false, narrowed := true }
def TypesCheckUptoSaid : Prop := typesCheckUptoRow.holds Try.pinned (OpenSpec.upto typesCheckSpec)

/-- 'selfstablaw07.TypesOfParts', WHERE WHAT IT READS IS OF BULK AT MOST 1048576: true; the input reads as it did. -/
def typesOfPartsUptoRow : OpenClaim := { program := "ytckofngclgkajaa", sum := "bd3ccd734cc833486b80c911cf187c4466c907bcbad6db90839ef635d5868f98", func := "selfstab/selfstablaw07.TypesOfParts", spec := "typesOfParts", unfollowed := true, recurses := true, apart := false, narrowed := true }
def TypesOfPartsUptoSaid : Prop := typesOfPartsUptoRow.holds Try.pinned (OpenSpec.upto typesOfPartsSpec)

/-- 'selfstablaw07.TypesKeepWithABound', WHERE WHAT IT READS IS OF BULK AT MOST 1048576: true; the input reads as it did. -/
def typesKeepWithABoundUptoRow : OpenClaim := { program := "ytckofngclgkajaa", sum := "bd3ccd734cc833486b80c911cf187c4466c907bcbad6db90839ef635d5868f98", func := "selfstab/selfstablaw07.TypesKeepWithABound", spec := "typesKeepWithABound", unfollowed := true, recurses := true, apart := false, narrowed := true }
def TypesKeepWithABoundUptoSaid : Prop := typesKeepWithABoundUptoRow.holds Try.pinned (OpenSpec.upto typesKeepWithABoundSpec)

/-- 'selfstablaw07.TypesIgnoreNumbers', WHERE WHAT IT READS IS OF BULK AT MOST 1048576: true; the input reads as it did. -/
def typesIgnoreNumbersUptoRow : OpenClaim := { program := "ytckofngclgkajaa", sum := "bd3ccd734cc833486b80c911cf187c4466c907bcbad6db90839ef635d5868f98", func := "selfstab/selfstablaw07.TypesIgnoreNumbers", spec := "typesIgnoreNumbers", unfollowed := true, recurses := true, apart := false, narrowed := true }
def TypesIgnoreNumbersUptoSaid : Prop := typesIgnoreNumbersUptoRow.holds Try.pinned (OpenSpec.upto typesIgnoreNumbersSpec)

/-- 'selfstablaw07.TypesFollowRenaming', WHERE WHAT IT READS IS OF BULK AT MOST 1048576: true; the input reads as it did. -/
def typesFollowRenamingUptoRow : OpenClaim := { program := "ytckofngclgkajaa", sum := "bd3ccd734cc833486b80c911cf187c4466c907bcbad6db90839ef635d5868f98", func := "selfstab/selfstablaw07.TypesFollowRenaming", spec := "typesFollowRenaming", unfollowed := true, recurses := true, apart := false, narrowed := true }
def TypesFollowRenamingUptoSaid : Prop := typesFollowRenamingUptoRow.holds Try.pinned (OpenSpec.upto typesFollowRenamingSpec)

/-- 'selfstablaw07.TypesAllowFewerRules', WHERE WHAT IT READS IS OF BULK AT MOST 1048576: true; the input reads as it did. -/
def typesAllowFewerRulesUptoRow : OpenClaim := { program := "ytckofngclgkajaa", sum := "bd3ccd734cc833486b80c911cf187c4466c907bcbad6db90839ef635d5868f98", func := "selfstab/selfstablaw07.TypesAllowFewerRules", spec := "typesAllowFewerRules", unfollowed := true, recurses := true, apart := false, narrowed := true }
def TypesAllowFewerRulesUptoSaid : Prop := typesAllowFewerRulesUptoRow.holds Try.pinned (OpenSpec.upto typesAllowFewerRulesSpec)

/-- 'selfstablaw07.TypesRefuseChanges', WHERE WHAT IT READS IS OF BULK AT MOST 1048576: true; the input reads as it did. -/
def typesRefuseChangesUptoRow : OpenClaim := { program := "ytckofngclgkajaa", sum := "bd3ccd734cc833486b80c911cf187c4466c907bcbad6db90839ef635d5868f98", func := "selfstab/selfstablaw07.TypesRefuseChanges", spec := "typesRefuseChanges", unfollowed := true, recurses := true, apart := false, narrowed := true }
def TypesRefuseChangesUptoSaid : Prop := typesRefuseChangesUptoRow.holds Try.pinned (OpenSpec.upto typesRefuseChangesSpec)

end Rows
end Go.Proofs.Ytckofngclgkajaa
