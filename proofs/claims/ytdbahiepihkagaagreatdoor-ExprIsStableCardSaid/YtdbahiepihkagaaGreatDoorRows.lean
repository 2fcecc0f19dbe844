/-
  NARROWER THAN 'FOR EVERY INPUT', by the rows' own cells (each row's printed sentence says how): ExprParses: laid · ExprFormats: laid · ExprReadsBack: laid · ExprIgnoresBrackets: laid · ExprBracketsEverything: laid · ExprIsStable: laid · ProgramFormats: laid · ProgramReadsBack: laid · ProgramIgnoresBlanks: laid · ProgramGrowsByLines: laid · ProgramTellsProgramsApart: laid.
  DERIVED. THE GIVEN ROWS OF THIS SEAT. 11 by the template 'for every input the law returns true; each argument reads behind the call as it read before'; 0 by the template 'total and deterministic' (their statements: YtdbahiepihkagaaGreatDoorTotals.lean).
  GIVEN WITH THE SEED: the statements are not yours to turn. If you find one false, say at which input.
  Laid BY PROGRAM, IN A SANDBOX (cutbox-rows.mjs): the forced cells as the released guide's own fill.sh prints them over the translation a8b6c06f4aa6166e… (all of the seat's roots in one cut). By AI agents, Wed Nov 11 2026. No macro, syntax, notation, axiom, sorry.
-/
import Derived.Test.YtdbahiepihkagaaGreatDoorChecked
import GoSem.Claim
import GoSem.ClaimJoined
import GoSem.ClaimMapViews
import Derived.JoinedTies
import Derived.KernelRfl
namespace Go.Proofs.YtdbahiepihkagaaGreatDoor
/- THE CELL 'sum', in the pinned program and in every row, IS THE sha256 OF THE DUMP (.gsa) THAT YtdbahiepihkagaaGreatDoorProg.lean LOADS. Nothing in Lean hashes anything: it is a label: what it is worth is what the hold of that sum in a sandbox is worth. -/
noncomputable def Tryz.pinned : Pinned := { name := "ytdbahiepihkagaagreatdoor", sum := "a8b6c06f4aa6166e778a8c8c66c256726400a5c5a9e8e2fbc3965f39103589f0", checked := Tryz.checked }
namespace Rows
def none {H : Type} : Left H := { results := [], args := [] }

/- WHAT THE LISTED PACKAGE-LEVEL VARIABLES READ AS WHEN THE CALL BEGINS. Each datum BY PROGRAM (the guide's laid-datum.mjs) off the statement by which the dump's own 'gosem.cut.vars' lays the variable. In a bare row this is a premise. The card (YtdbahiepihkagaaGreatDoorCards.lean) ties it to the program's text. -/
def laid_math_bits_deBruijn32tab {H : Type} : DataW H := .agg [.lit (.int .u8 0), .lit (.int .u8 1), .lit (.int .u8 28), .lit (.int .u8 2), .lit (.int .u8 29), .lit (.int .u8 14), .lit (.int .u8 24), .lit (.int .u8 3), .lit (.int .u8 30), .lit (.int .u8 22), .lit (.int .u8 20), .lit (.int .u8 15), .lit (.int .u8 25), .lit (.int .u8 17), .lit (.int .u8 4), .lit (.int .u8 8), .lit (.int .u8 31), .lit (.int .u8 27), .lit (.int .u8 13), .lit (.int .u8 23), .lit (.int .u8 21), .lit (.int .u8 19), .lit (.int .u8 16), .lit (.int .u8 7), .lit (.int .u8 26), .lit (.int .u8 12), .lit (.int .u8 18), .lit (.int .u8 6), .lit (.int .u8 11), .lit (.int .u8 5), .lit (.int .u8 10), .lit (.int .u8 9)]
def laid_math_bits_deBruijn64tab {H : Type} : DataW H := .agg [.lit (.int .u8 0), .lit (.int .u8 1), .lit (.int .u8 56), .lit (.int .u8 2), .lit (.int .u8 57), .lit (.int .u8 49), .lit (.int .u8 28), .lit (.int .u8 3), .lit (.int .u8 61), .lit (.int .u8 58), .lit (.int .u8 42), .lit (.int .u8 50), .lit (.int .u8 38), .lit (.int .u8 29), .lit (.int .u8 17), .lit (.int .u8 4), .lit (.int .u8 62), .lit (.int .u8 47), .lit (.int .u8 59), .lit (.int .u8 36), .lit (.int .u8 45), .lit (.int .u8 43), .lit (.int .u8 51), .lit (.int .u8 22), .lit (.int .u8 53), .lit (.int .u8 39), .lit (.int .u8 33), .lit (.int .u8 30), .lit (.int .u8 24), .lit (.int .u8 18), .lit (.int .u8 12), .lit (.int .u8 5), .lit (.int .u8 63), .lit (.int .u8 55), .lit (.int .u8 48), .lit (.int .u8 27), .lit (.int .u8 60), .lit (.int .u8 41), .lit (.int .u8 37), .lit (.int .u8 16), .lit (.int .u8 46), .lit (.int .u8 35), .lit (.int .u8 44), .lit (.int .u8 21), .lit (.int .u8 52), .lit (.int .u8 32), .lit (.int .u8 23), .lit (.int .u8 11), .lit (.int .u8 54), .lit (.int .u8 26), .lit (.int .u8 40), .lit (.int .u8 15), .lit (.int .u8 34), .lit (.int .u8 20), .lit (.int .u8 31), .lit (.int .u8 10), .lit (.int .u8 25), .lit (.int .u8 14), .lit (.int .u8 19), .lit (.int .u8 9), .lit (.int .u8 13), .lit (.int .u8 8), .lit (.int .u8 7), .lit (.int .u8 6)]
def laid_internal_strconv_uint64pow10 {H : Type} : DataW H := .agg [.lit (.int .u64 1), .lit (.int .u64 10), .lit (.int .u64 100), .lit (.int .u64 1000), .lit (.int .u64 10000), .lit (.int .u64 100000), .lit (.int .u64 1000000), .lit (.int .u64 10000000), .lit (.int .u64 100000000), .lit (.int .u64 1000000000), .lit (.int .u64 10000000000), .lit (.int .u64 100000000000), .lit (.int .u64 1000000000000), .lit (.int .u64 10000000000000), .lit (.int .u64 100000000000000), .lit (.int .u64 1000000000000000), .lit (.int .u64 10000000000000000), .lit (.int .u64 100000000000000000), .lit (.int .u64 1000000000000000000), .lit (.int .u64 10000000000000000000)]
def laid_selfstab_expr_words {H : Type} : DataW H := .agg [.lit (.string []), .lit (.string []), .lit (.string [116, 114, 117, 101]), .lit (.string [102, 97, 108, 115, 101]), .lit (.string [110, 111, 110, 101]), .lit (.string []), .lit (.string [110]), .lit (.string [105, 100, 115]), .lit (.string [105, 100]), .lit (.string [100, 101, 103]), .lit (.string [114, 111, 111, 116]), .lit (.string [113]), .lit (.string []), .lit (.string [113, 46, 105, 100]), .lit (.string [113, 46, 100, 101, 103]), .lit (.string [113, 46, 114, 111, 111, 116]), .lit (.string [113, 46, 119, 101, 105, 103, 104, 116]), .lit (.string [113, 46, 98, 97, 99, 107]), .lit (.string [45]), .lit (.string [33]), .lit (.string [97, 108, 108]), .lit (.string [115, 111, 109, 101]), .lit (.string [99, 111, 117, 110, 116]), .lit (.string [102, 105, 114, 115, 116]), .lit (.string [109, 105, 110]), .lit (.string [109, 97, 120]), .lit (.string [115, 117, 109]), .lit (.string [109, 101, 120]), .lit (.string [115, 101, 99, 111, 110, 100]), .lit (.string [104, 101, 97, 100]), .lit (.string [42]), .lit (.string [47]), .lit (.string [37]), .lit (.string [43]), .lit (.string [45]), .lit (.string [61, 61]), .lit (.string [33, 61]), .lit (.string [60]), .lit (.string [60, 61]), .lit (.string [62]), .lit (.string [62, 61]), .lit (.string [38, 38]), .lit (.string [124, 124])]

/-- 'selfstablaw06.ExprParses': WHATEVER THE INPUT: true; the input reads as it did. -/
def exprParsesSpec : ChangeSpec := { name := "exprParses", fn := fun _ => fun
  | [d1, d2] => { results := [.lit (.bool true)], args := [d1, d2] }
  | _ => none }
def exprParsesRow : OpenClaim := { program := "ytdbahiepihkagaagreatdoor", sum := "a8b6c06f4aa6166e778a8c8c66c256726400a5c5a9e8e2fbc3965f39103589f0", func := "selfstab/selfstablaw06.ExprParses", spec := "exprParses", inPlace := ["slices.overlaps[selfstab/api.Term]", "internal/bytealg.IndexByteString", "internal/abi.NoEscape"], unfollowed := true, recurses := true, named := ["selfstab/expr.words", "internal/strconv.uint64pow10", "math/bits.deBruijn32tab", "math/bits.deBruijn64tab"], apart := false, laid := [("math/bits.deBruijn32tab", laid_math_bits_deBruijn32tab), ("math/bits.deBruijn64tab", laid_math_bits_deBruijn64tab), ("internal/strconv.uint64pow10", laid_internal_strconv_uint64pow10), ("selfstab/expr.words", laid_selfstab_expr_words)] }
def ExprParsesSaid : Prop := exprParsesRow.holds Tryz.pinned (OpenSpec.ofChange exprParsesSpec)

/-- ITS FALSE NEIGHBOUR: 'it returns false'. Refute it at one input. -/
def exprParsesWrong : ChangeSpec := { name := "exprParses", fn := fun _ => fun
  | [d1, d2] => { results := [.lit (.bool false)], args := [d1, d2] }
  | _ => none }
def ExprParsesWrongFalsely : Prop := exprParsesRow.holds Tryz.pinned (OpenSpec.ofChange exprParsesWrong)

/-- 'selfstablaw06.ExprFormats': WHATEVER THE INPUT: true; the input reads as it did. -/
def exprFormatsSpec : ChangeSpec := { name := "exprFormats", fn := fun _ => fun
  | [d1, d2] => { results := [.lit (.bool true)], args := [d1, d2] }
  | _ => none }
def exprFormatsRow : OpenClaim := { program := "ytdbahiepihkagaagreatdoor", sum := "a8b6c06f4aa6166e778a8c8c66c256726400a5c5a9e8e2fbc3965f39103589f0", func := "selfstab/selfstablaw06.ExprFormats", spec := "exprFormats", inPlace := ["slices.overlaps[selfstab/api.Term]", "internal/bytealg.IndexByteString", "internal/abi.NoEscape"], unfollowed := true, recurses := true, named := ["selfstab/expr.words", "internal/strconv.uint64pow10", "math/bits.deBruijn32tab", "math/bits.deBruijn64tab"], apart := false, laid := [("math/bits.deBruijn32tab", laid_math_bits_deBruijn32tab), ("math/bits.deBruijn64tab", laid_math_bits_deBruijn64tab), ("internal/strconv.uint64pow10", laid_internal_strconv_uint64pow10), ("selfstab/expr.words", laid_selfstab_expr_words)] }
def ExprFormatsSaid : Prop := exprFormatsRow.holds Tryz.pinned (OpenSpec.ofChange exprFormatsSpec)

/-- ITS FALSE NEIGHBOUR: 'it returns false'. Refute it at one input. -/
def exprFormatsWrong : ChangeSpec := { name := "exprFormats", fn := fun _ => fun
  | [d1, d2] => { results := [.lit (.bool false)], args := [d1, d2] }
  | _ => none }
def ExprFormatsWrongFalsely : Prop := exprFormatsRow.holds Tryz.pinned (OpenSpec.ofChange exprFormatsWrong)

/-- 'selfstablaw06.ExprReadsBack': WHATEVER THE INPUT: true; the input reads as it did. -/
def exprReadsBackSpec : ChangeSpec := { name := "exprReadsBack", fn := fun _ => fun
  | [d1, d2] => { results := [.lit (.bool true)], args := [d1, d2] }
  | _ => none }
def exprReadsBackRow : OpenClaim := { program := "ytdbahiepihkagaagreatdoor", sum := "a8b6c06f4aa6166e778a8c8c66c256726400a5c5a9e8e2fbc3965f39103589f0", func := "selfstab/selfstablaw06.ExprReadsBack", spec := "exprReadsBack", inPlace := ["slices.overlaps[selfstab/api.Term]", "internal/bytealg.IndexByteString", "internal/abi.NoEscape"], unfollowed := true, recurses := true, named := ["selfstab/expr.words", "internal/strconv.uint64pow10", "math/bits.deBruijn32tab", "math/bits.deBruijn64tab"], apart := false, laid := [("math/bits.deBruijn32tab", laid_math_bits_deBruijn32tab), ("math/bits.deBruijn64tab", laid_math_bits_deBruijn64tab), ("internal/strconv.uint64pow10", laid_internal_strconv_uint64pow10), ("selfstab/expr.words", laid_selfstab_expr_words)] }
def ExprReadsBackSaid : Prop := exprReadsBackRow.holds Tryz.pinned (OpenSpec.ofChange exprReadsBackSpec)

/-- ITS FALSE NEIGHBOUR: 'it returns false'. Refute it at one input. -/
def exprReadsBackWrong : ChangeSpec := { name := "exprReadsBack", fn := fun _ => fun
  | [d1, d2] => { results := [.lit (.bool false)], args := [d1, d2] }
  | _ => none }
def ExprReadsBackWrongFalsely : Prop := exprReadsBackRow.holds Tryz.pinned (OpenSpec.ofChange exprReadsBackWrong)

/-- 'selfstablaw06.ExprIgnoresBrackets': WHATEVER THE INPUT: true; the input reads as it did. -/
def exprIgnoresBracketsSpec : ChangeSpec := { name := "exprIgnoresBrackets", fn := fun _ => fun
  | [d1, d2, d3] => { results := [.lit (.bool true)], args := [d1, d2, d3] }
  | _ => none }
def exprIgnoresBracketsRow : OpenClaim := { program := "ytdbahiepihkagaagreatdoor", sum := "a8b6c06f4aa6166e778a8c8c66c256726400a5c5a9e8e2fbc3965f39103589f0", func := "selfstab/selfstablaw06.ExprIgnoresBrackets", spec := "exprIgnoresBrackets", inPlace := ["slices.overlaps[selfstab/api.Term]", "internal/bytealg.IndexByteString", "internal/abi.NoEscape"], unfollowed := true, recurses := true, named := ["selfstab/expr.words", "internal/strconv.uint64pow10", "math/bits.deBruijn32tab", "math/bits.deBruijn64tab"], apart := false, laid := [("math/bits.deBruijn32tab", laid_math_bits_deBruijn32tab), ("math/bits.deBruijn64tab", laid_math_bits_deBruijn64tab), ("internal/strconv.uint64pow10", laid_internal_strconv_uint64pow10), ("selfstab/expr.words", laid_selfstab_expr_words)] }
def ExprIgnoresBracketsSaid : Prop := exprIgnoresBracketsRow.holds Tryz.pinned (OpenSpec.ofChange exprIgnoresBracketsSpec)

/-- ITS FALSE NEIGHBOUR: 'it returns false'. Refute it at one input. -/
def exprIgnoresBracketsWrong : ChangeSpec := { name := "exprIgnoresBrackets", fn := fun _ => fun
  | [d1, d2, d3] => { results := [.lit (.bool false)], args := [d1, d2, d3] }
  | _ => none }
def ExprIgnoresBracketsWrongFalsely : Prop := exprIgnoresBracketsRow.holds Tryz.pinned (OpenSpec.ofChange exprIgnoresBracketsWrong)

/-- 'selfstablaw06.ExprBracketsEverything': WHATEVER THE INPUT: true; the input reads as it did. -/
def exprBracketsEverythingSpec : ChangeSpec := { name := "exprBracketsEverything", fn := fun _ => fun
  | [d1, d2] => { results := [.lit (.bool true)], args := [d1, d2] }
  | _ => none }
def exprBracketsEverythingRow : OpenClaim := { program := "ytdbahiepihkagaagreatdoor", sum := "a8b6c06f4aa6166e778a8c8c66c256726400a5c5a9e8e2fbc3965f39103589f0", func := "selfstab/selfstablaw06.ExprBracketsEverything", spec := "exprBracketsEverything", inPlace := ["slices.overlaps[selfstab/api.Term]", "internal/bytealg.IndexByteString", "internal/abi.NoEscape"], unfollowed := true, recurses := true, named := ["selfstab/expr.words", "internal/strconv.uint64pow10", "math/bits.deBruijn32tab", "math/bits.deBruijn64tab"], apart := false, laid := [("math/bits.deBruijn32tab", laid_math_bits_deBruijn32tab), ("math/bits.deBruijn64tab", laid_math_bits_deBruijn64tab), ("internal/strconv.uint64pow10", laid_internal_strconv_uint64pow10), ("selfstab/expr.words", laid_selfstab_expr_words)] }
def ExprBracketsEverythingSaid : Prop := exprBracketsEverythingRow.holds Tryz.pinned (OpenSpec.ofChange exprBracketsEverythingSpec)

/-- ITS FALSE NEIGHBOUR: 'it returns false'. Refute it at one input. -/
def exprBracketsEverythingWrong : ChangeSpec := { name := "exprBracketsEverything", fn := fun _ => fun
  | [d1, d2] => { results := [.lit (.bool false)], args := [d1, d2] }
  | _ => none }
def ExprBracketsEverythingWrongFalsely : Prop := exprBracketsEverythingRow.holds Tryz.pinned (OpenSpec.ofChange exprBracketsEverythingWrong)

/-- 'selfstablaw06.ExprIsStable': WHATEVER THE INPUT: true; the input reads as it did. -/
def exprIsStableSpec : ChangeSpec := { name := "exprIsStable", fn := fun _ => fun
  | [d1, d2] => { results := [.lit (.bool true)], args := [d1, d2] }
  | _ => none }
def exprIsStableRow : OpenClaim := { program := "ytdbahiepihkagaagreatdoor", sum := "a8b6c06f4aa6166e778a8c8c66c256726400a5c5a9e8e2fbc3965f39103589f0", func := "selfstab/selfstablaw06.ExprIsStable", spec := "exprIsStable", inPlace := ["slices.overlaps[selfstab/api.Term]", "internal/bytealg.IndexByteString", "internal/abi.NoEscape"], unfollowed := true, recurses := true, named := ["selfstab/expr.words", "internal/strconv.uint64pow10", "math/bits.deBruijn32tab", "math/bits.deBruijn64tab"], apart := false, laid := [("math/bits.deBruijn32tab", laid_math_bits_deBruijn32tab), ("math/bits.deBruijn64tab", laid_math_bits_deBruijn64tab), ("internal/strconv.uint64pow10", laid_internal_strconv_uint64pow10), ("selfstab/expr.words", laid_selfstab_expr_words)] }
def ExprIsStableSaid : Prop := exprIsStableRow.holds Tryz.pinned (OpenSpec.ofChange exprIsStableSpec)

/-- ITS FALSE NEIGHBOUR: 'it returns false'. Refute it at one input. -/
def exprIsStableWrong : ChangeSpec := { name := "exprIsStable", fn := fun _ => fun
  | [d1, d2] => { results := [.lit (.bool false)], args := [d1, d2] }
  | _ => none }
def ExprIsStableWrongFalsely : Prop := exprIsStableRow.holds Tryz.pinned (OpenSpec.ofChange exprIsStableWrong)

/-- 'selfstablaw08.ProgramFormats': WHATEVER THE INPUT: true; the input reads as it did. -/
def programFormatsSpec : ChangeSpec := { name := "programFormats", fn := fun _ => fun
  | [d] => { results := [.lit (.bool true)], args := [d] }
  | _ => none }
def programFormatsRow : OpenClaim := { program := "ytdbahiepihkagaagreatdoor", sum := "a8b6c06f4aa6166e778a8c8c66c256726400a5c5a9e8e2fbc3965f39103589f0", func := "selfstab/selfstablaw08.ProgramFormats", spec := "programFormats", inPlace := ["slices.overlaps[selfstab/api.Term]", "internal/bytealg.IndexByteString", "internal/abi.NoEscape", "internal/bytealg.MakeNoZero"], unfollowed := true, recurses := true, named := ["selfstab/expr.words", "internal/strconv.uint64pow10", "math/bits.deBruijn32tab", "math/bits.deBruijn64tab"], apart := false, laid := [("math/bits.deBruijn32tab", laid_math_bits_deBruijn32tab), ("math/bits.deBruijn64tab", laid_math_bits_deBruijn64tab), ("internal/strconv.uint64pow10", laid_internal_strconv_uint64pow10), ("selfstab/expr.words", laid_selfstab_expr_words)] }
def ProgramFormatsSaid : Prop := programFormatsRow.holds Tryz.pinned (OpenSpec.ofChange programFormatsSpec)

/-- ITS FALSE NEIGHBOUR: 'it returns false'. Refute it at one input. -/
def programFormatsWrong : ChangeSpec := { name := "programFormats", fn := fun _ => fun
  | [d] => { results := [.lit (.bool false)], args := [d] }
  | _ => none }
def ProgramFormatsWrongFalsely : Prop := programFormatsRow.holds Tryz.pinned (OpenSpec.ofChange programFormatsWrong)

/-- 'selfstablaw08.ProgramReadsBack': WHATEVER THE INPUT: true; the input reads as it did. -/
def programReadsBackSpec : ChangeSpec := { name := "programReadsBack", fn := fun _ => fun
  | [d] => { results := [.lit (.bool true)], args := [d] }
  | _ => none }
def programReadsBackRow : OpenClaim := { program := "ytdbahiepihkagaagreatdoor", sum := "a8b6c06f4aa6166e778a8c8c66c256726400a5c5a9e8e2fbc3965f39103589f0", func := "selfstab/selfstablaw08.ProgramReadsBack", spec := "programReadsBack", inPlace := ["slices.overlaps[selfstab/api.Term]", "internal/bytealg.IndexByteString", "internal/abi.NoEscape", "internal/bytealg.MakeNoZero"], unfollowed := true, recurses := true, named := ["selfstab/expr.words", "internal/strconv.uint64pow10", "math/bits.deBruijn32tab", "math/bits.deBruijn64tab"], apart := false, laid := [("math/bits.deBruijn32tab", laid_math_bits_deBruijn32tab), ("math/bits.deBruijn64tab", laid_math_bits_deBruijn64tab), ("internal/strconv.uint64pow10", laid_internal_strconv_uint64pow10), ("selfstab/expr.words", laid_selfstab_expr_words)] }
def ProgramReadsBackSaid : Prop := programReadsBackRow.holds Tryz.pinned (OpenSpec.ofChange programReadsBackSpec)

/-- ITS FALSE NEIGHBOUR: 'it returns false'. Refute it at one input. -/
def programReadsBackWrong : ChangeSpec := { name := "programReadsBack", fn := fun _ => fun
  | [d] => { results := [.lit (.bool false)], args := [d] }
  | _ => none }
def ProgramReadsBackWrongFalsely : Prop := programReadsBackRow.holds Tryz.pinned (OpenSpec.ofChange programReadsBackWrong)

/-- 'selfstablaw08.ProgramIgnoresBlanks': WHATEVER THE INPUT: true; the input reads as it did. -/
def programIgnoresBlanksSpec : ChangeSpec := { name := "programIgnoresBlanks", fn := fun _ => fun
  | [d1, d2] => { results := [.lit (.bool true)], args := [d1, d2] }
  | _ => none }
def programIgnoresBlanksRow : OpenClaim := { program := "ytdbahiepihkagaagreatdoor", sum := "a8b6c06f4aa6166e778a8c8c66c256726400a5c5a9e8e2fbc3965f39103589f0", func := "selfstab/selfstablaw08.ProgramIgnoresBlanks", spec := "programIgnoresBlanks", inPlace := ["slices.overlaps[selfstab/api.Term]", "internal/bytealg.IndexByteString", "internal/abi.NoEscape", "internal/bytealg.MakeNoZero"], unfollowed := true, recurses := true, named := ["selfstab/expr.words", "internal/strconv.uint64pow10", "math/bits.deBruijn32tab", "math/bits.deBruijn64tab"], apart := false, laid := [("math/bits.deBruijn32tab", laid_math_bits_deBruijn32tab), ("math/bits.deBruijn64tab", laid_math_bits_deBruijn64tab), ("internal/strconv.uint64pow10", laid_internal_strconv_uint64pow10), ("selfstab/expr.words", laid_selfstab_expr_words)] }
def ProgramIgnoresBlanksSaid : Prop := programIgnoresBlanksRow.holds Tryz.pinned (OpenSpec.ofChange programIgnoresBlanksSpec)

/-- ITS FALSE NEIGHBOUR: 'it returns false'. Refute it at one input. -/
def programIgnoresBlanksWrong : ChangeSpec := { name := "programIgnoresBlanks", fn := fun _ => fun
  | [d1, d2] => { results := [.lit (.bool false)], args := [d1, d2] }
  | _ => none }
def ProgramIgnoresBlanksWrongFalsely : Prop := programIgnoresBlanksRow.holds Tryz.pinned (OpenSpec.ofChange programIgnoresBlanksWrong)

/-- 'selfstablaw08.ProgramGrowsByLines': WHATEVER THE INPUT: true; the input reads as it did. -/
def programGrowsByLinesSpec : ChangeSpec := { name := "programGrowsByLines", fn := fun _ => fun
  | [d] => { results := [.lit (.bool true)], args := [d] }
  | _ => none }
def programGrowsByLinesRow : OpenClaim := { program := "ytdbahiepihkagaagreatdoor", sum := "a8b6c06f4aa6166e778a8c8c66c256726400a5c5a9e8e2fbc3965f39103589f0", func := "selfstab/selfstablaw08.ProgramGrowsByLines", spec := "programGrowsByLines", inPlace := ["slices.overlaps[selfstab/api.Term]", "internal/bytealg.IndexByteString", "internal/abi.NoEscape", "internal/bytealg.MakeNoZero"], unfollowed := true, recurses := true, named := ["selfstab/expr.words", "internal/strconv.uint64pow10", "math/bits.deBruijn32tab", "math/bits.deBruijn64tab"], apart := false, laid := [("math/bits.deBruijn32tab", laid_math_bits_deBruijn32tab), ("math/bits.deBruijn64tab", laid_math_bits_deBruijn64tab), ("internal/strconv.uint64pow10", laid_internal_strconv_uint64pow10), ("selfstab/expr.words", laid_selfstab_expr_words)] }
def ProgramGrowsByLinesSaid : Prop := programGrowsByLinesRow.holds Tryz.pinned (OpenSpec.ofChange programGrowsByLinesSpec)

/-- ITS FALSE NEIGHBOUR: 'it returns false'. Refute it at one input. -/
def programGrowsByLinesWrong : ChangeSpec := { name := "programGrowsByLines", fn := fun _ => fun
  | [d] => { results := [.lit (.bool false)], args := [d] }
  | _ => none }
def ProgramGrowsByLinesWrongFalsely : Prop := programGrowsByLinesRow.holds Tryz.pinned (OpenSpec.ofChange programGrowsByLinesWrong)

/-- 'selfstablaw08.ProgramTellsProgramsApart': WHATEVER THE INPUT: true; the input reads as it did. -/
def programTellsProgramsApartSpec : ChangeSpec := { name := "programTellsProgramsApart", fn := fun _ => fun
  | [d1, d2] => { results := [.lit (.bool true)], args := [d1, d2] }
  | _ => none }
def programTellsProgramsApartRow : OpenClaim := { program := "ytdbahiepihkagaagreatdoor", sum := "a8b6c06f4aa6166e778a8c8c66c256726400a5c5a9e8e2fbc3965f39103589f0", func := "selfstab/selfstablaw08.ProgramTellsProgramsApart", spec := "programTellsProgramsApart", inPlace := ["slices.overlaps[selfstab/api.Term]", "internal/bytealg.IndexByteString", "internal/abi.NoEscape", "internal/bytealg.MakeNoZero"], unfollowed := true, recurses := true, named := ["selfstab/expr.words", "internal/strconv.uint64pow10", "math/bits.deBruijn32tab", "math/bits.deBruijn64tab"], apart := false, laid := [("math/bits.deBruijn32tab", laid_math_bits_deBruijn32tab), ("math/bits.deBruijn64tab", laid_math_bits_deBruijn64tab), ("internal/strconv.uint64pow10", laid_internal_strconv_uint64pow10), ("selfstab/expr.words", laid_selfstab_expr_words)] }
def ProgramTellsProgramsApartSaid : Prop := programTellsProgramsApartRow.holds Tryz.pinned (OpenSpec.ofChange programTellsProgramsApartSpec)

/-- ITS FALSE NEIGHBOUR: 'it returns false'. Refute it at one input. -/
def programTellsProgramsApartWrong : ChangeSpec := { name := "programTellsProgramsApart", fn := fun _ => fun
  | [d1, d2] => { results := [.lit (.bool false)], args := [d1, d2] }
  | _ => none }
def ProgramTellsProgramsApartWrongFalsely : Prop := programTellsProgramsApartRow.holds Tryz.pinned (OpenSpec.ofChange programTellsProgramsApartWrong)

/- THE SECOND FORM. 'bulk': how many values and letters a reading holds, each counted each time it is reached (what is shared counts as often as it is met; a slice's spare places count too). A statement '..UptoSaid' is the law's where the arguments, and the package variables that the reading takes, are together of bulk at most 1048576: NARROWER than '..Said'. Prove '..Said' where nothing that the law and all that it calls make is longer than what came in: it says more and counts as full. Else prove '..UptoSaid'. A law counts once. -/
mutual
def uptoBulk {H : Type} : DataW H → Nat
  | .lit (.string bytes) => bytes.length + 1
  | .lit _ => 1
  | .nil => 1
  | .ptr d => uptoBulk d + 1
  | .slice elems spare => uptoBulkAll elems + uptoBulkAll spare + 1
  | .agg parts => uptoBulkAll parts + 1
  | .iface _ d => uptoBulk d + 1
  | .map entries => uptoBulkEntries entries + 1
  | .held _ => 1
def uptoBulkAll {H : Type} : List (DataW H) → Nat
  | [] => 0
  | d :: r => uptoBulk d + uptoBulkAll r
def uptoBulkEntries {H : Type} : List (Lit × DataW H) → Nat
  | [] => 0
  | x :: r => uptoBulkEntry x + uptoBulkEntries r
def uptoBulkEntry {H : Type} : Lit × DataW H → Nat
  | (.string bytes, d) => bytes.length + uptoBulk d + 1
  | (_, d) => uptoBulk d + 1
 end
def uptoSmall : (H : Type) → List (DataW H) → Bool := fun _ ds => decide (uptoBulkAll ds ≤ 1048576)
def OpenSpec.upto (s : _root_.Go.ChangeSpec) : _root_.Go.OpenSpec := { _root_.Go.OpenSpec.ofChange s with cond := some uptoSmall }

/-- 'selfstablaw06.ExprParses', WHERE WHAT IT READS IS OF BULK AT MOST 1048576: true; the input reads as it did. -/
def exprParsesUptoRow : OpenClaim := { program := "ytdbahiepihkagaagreatdoor", sum := "a8b6c06f4aa6166e778a8c8c66c256726400a5c5a9e8e2fbc3965f39103589f0", func := "selfstab/selfstablaw06.ExprParses", spec := "exprParses", inPlace := ["slices.overlaps[selfstab/api.Term]", "internal/bytealg.IndexByteString", "internal/abi.NoEscape"], unfollowed := true, recurses := true, named := ["selfstab/expr.words", "internal/strconv.uint64pow10", "math/bits.deBruijn32tab", "math/bits.deBruijn64tab"], apart := false, laid := [("math/bits.deBruijn32tab", laid_math_bits_deBruijn32tab), ("math/bits.deBruijn64tab", laid_math_bits_deBruijn64tab), ("internal/strconv.uint64pow10", laid_internal_strconv_uint64pow10), ("selfstab/expr.words", laid_selfstab_expr_words)], narrowed := true }
def ExprParsesUptoSaid : Prop := exprParsesUptoRow.holds Tryz.pinned (OpenSpec.upto exprParsesSpec)

/-- 'selfstablaw06.ExprFormats', WHERE WHAT IT READS IS OF BULK AT MOST 1048576: true; the input reads as it did. -/
def exprFormatsUptoRow : OpenClaim := { program := "ytdbahiepihkagaagreatdoor", sum := "a8b6c06f4aa6166e778a8c8c66c256726400a5c5a9e8e2fbc3965f39103589f0", func := "selfstab/selfstablaw06.ExprFormats", spec := "exprFormats", inPlace := ["slices.overlaps[selfstab/api.Term]", "internal/bytealg.IndexByteString", "internal/abi.NoEscape"], unfollowed := true, recurses := true, named := ["selfstab/expr.words", "internal/strconv.uint64pow10", "math/bits.deBruijn32tab", "math/bits.deBruijn64tab"], apart := false, laid := [("math/bits.deBruijn32tab", laid_math_bits_deBruijn32tab), ("math/bits.deBruijn64tab", laid_math_bits_deBruijn64tab), ("internal/strconv.uint64pow10", laid_internal_strconv_uint64pow10), ("selfstab/expr.words", laid_selfstab_expr_words)], narrowed := true }
def ExprFormatsUptoSaid : Prop := exprFormatsUptoRow.holds Tryz.pinned (OpenSpec.upto exprFormatsSpec)

/-- 'selfstablaw06.ExprReadsBack', WHERE WHAT IT READS IS OF BULK AT MOST 1048576: true; the input reads as it did. -/
def exprReadsBackUptoRow : OpenClaim := { program := "ytdbahiepihkagaagreatdoor", sum := "a8b6c06f4aa6166e778a8c8c66c256726400a5c5a9e8e2fbc3965f39103589f0", func := "selfstab/selfstablaw06.ExprReadsBack", spec := "exprReadsBack", inPlace := ["slices.overlaps[selfstab/api.Term]", "internal/bytealg.IndexByteString", "internal/abi.NoEscape"], unfollowed := true, recurses := true, named := ["selfstab/expr.words", "internal/strconv.uint64pow10", "math/bits.deBruijn32tab", "math/bits.deBruijn64tab"], apart := false, laid := [("math/bits.deBruijn32tab", laid_math_bits_deBruijn32tab), ("math/bits.deBruijn64tab", laid_math_bits_deBruijn64tab), ("internal/strconv.uint64pow10", laid_internal_strconv_uint64pow10), ("selfstab/expr.words", laid_selfstab_expr_words)], narrowed := true }
def ExprReadsBackUptoSaid : Prop := exprReadsBackUptoRow.holds Tryz.pinned (OpenSpec.upto exprReadsBackSpec)

/-- 'selfstablaw06.ExprIgnoresBrackets', WHERE WHAT IT READS IS OF BULK AT MOST 1048576: true; the input reads as it did. -/
def exprIgnoresBracketsUptoRow : OpenClaim := { program := "ytdbahiepihkagaagreatdoor", sum := "a8b6c06f4aa6166e778a8c8c66c256726400a5c5a9e8e2fbc3965f39103589f0", func := "selfstab/selfstablaw06.ExprIgnoresBrackets", spec := "exprIgnoresBrackets", inPlace := ["slices.overlaps[selfstab/api.Term]", "internal/bytealg.IndexByteString", "internal/abi.NoEscape"], unfollowed := true, recurses := true, named := ["selfstab/expr.words", "internal/strconv.uint64pow10", "math/bits.deBruijn32tab", "math/bits.deBruijn64tab"], apart := false, laid := [("math/bits.deBruijn32tab", laid_math_bits_deBruijn32tab), ("math/bits.deBruijn64tab", laid_math_bits_deBruijn64tab), ("internal/strconv.uint64pow10", laid_internal_strconv_uint64pow10), ("selfstab/expr.words", laid_selfstab_expr_words)], narrowed := true }
def ExprIgnoresBracketsUptoSaid : Prop := exprIgnoresBracketsUptoRow.holds Tryz.pinned (OpenSpec.upto exprIgnoresBracketsSpec)

/-- 'selfstablaw06.ExprBracketsEverything', WHERE WHAT IT READS IS OF BULK AT MOST 1048576: true; the input reads as it did. -/
def exprBracketsEverythingUptoRow : OpenClaim := { program := "ytdbahiepihkagaagreatdoor", sum := "a8b6c06f4aa6166e778a8c8c66c256726400a5c5a9e8e2fbc3965f39103589f0", func := "selfstab/selfstablaw06.ExprBracketsEverything", spec := "exprBracketsEverything", inPlace := ["slices.overlaps[selfstab/api.Term]", "internal/bytealg.IndexByteString", "internal/abi.NoEscape"], unfollowed := true, recurses := true, named := ["selfstab/expr.words", "internal/strconv.uint64pow10", "math/bits.deBruijn32tab", "math/bits.deBruijn64tab"], apart := false, laid := [("math/bits.deBruijn32tab", laid_math_bits_deBruijn32tab), ("math/bits.deBruijn64tab", laid_math_bits_deBruijn64tab), ("internal/strconv.uint64pow10", laid_internal_strconv_uint64pow10), ("selfstab/expr.words", laid_selfstab_expr_words)], narrowed := true }
def ExprBracketsEverythingUptoSaid : Prop := exprBracketsEverythingUptoRow.holds Tryz.pinned (OpenSpec.upto exprBracketsEverythingSpec)

/-- 'selfstablaw06.ExprIsStable', WHERE WHAT IT READS IS OF BULK AT MOST 1048576: true; the input reads as it did. -/
def exprIsStableUptoRow : OpenClaim := { program := "ytdbahiepihkagaagreatdoor", sum := "a8b6c06f4aa6166e778a8c8c66c256726400a5c5a9e8e2fbc3965f39103589f0", func := "selfstab/selfstablaw06.ExprIsStable", spec := "exprIsStable", inPlace := ["slices.overlaps[selfstab/api.Term]", "internal/bytealg.IndexByteString", "internal/abi.NoEscape"], unfollowed := true, recurses := true, named := ["selfstab/expr.words", "internal/strconv.uint64pow10", "math/bits.deBruijn32tab", "math/bits.deBruijn64tab"], apart := false, laid := [("math/bits.deBruijn32tab", laid_math_bits_deBruijn32tab), ("math/bits.deBruijn64tab", laid_math_bits_deBruijn64tab), ("internal/strconv.uint64pow10", laid_internal_strconv_uint64pow10), ("selfstab/expr.words", laid_selfstab_expr_words)], narrowed := true }
def ExprIsStableUptoSaid : Prop := exprIsStableUptoRow.holds Tryz.pinned (OpenSpec.upto exprIsStableSpec)

/-- 'selfstablaw08.ProgramFormats', WHERE WHAT IT READS IS OF BULK AT MOST 1048576: true; the input reads as it did. -/
def programFormatsUptoRow : OpenClaim := { program := "ytdbahiepihkagaagreatdoor", sum := "a8b6c06f4aa6166e778a8c8c66c256726400a5c5a9e8e2fbc3965f39103589f0", func := "selfstab/selfstablaw08.ProgramFormats", spec := "programFormats", inPlace := ["slices.overlaps[selfstab/api.Term]", "internal/bytealg.IndexByteString", "internal/abi.NoEscape", "internal/bytealg.MakeNoZero"], unfollowed := true, recurses := true, named := ["selfstab/expr.words", "internal/strconv.uint64pow10", "math/bits.deBruijn32tab", "math/bits.deBruijn64tab"], apart := false, laid := [("math/bits.deBruijn32tab", laid_math_bits_deBruijn32tab), ("math/bits.deBruijn64tab", laid_math_bits_deBruijn64tab), ("internal/strconv.uint64pow10", laid_internal_strconv_uint64pow10), ("selfstab/expr.words", laid_selfstab_expr_words)], narrowed := true }
def ProgramFormatsUptoSaid : Prop := programFormatsUptoRow.holds Tryz.pinned (OpenSpec.upto programFormatsSpec)

/-- 'selfstablaw08.ProgramReadsBack', WHERE WHAT IT READS IS OF BULK AT MOST 1048576: true; the input reads as it did. -/
def programReadsBackUptoRow : OpenClaim := { program := "ytdbahiepihkagaagreatdoor", sum := "a8b6c06f4aa6166e778a8c8c66c256726400a5c5a9e8e2fbc3965f39103589f0", func := "selfstab/selfstablaw08.ProgramReadsBack", spec := "programReadsBack", inPlace := ["slices.overlaps[selfstab/api.Term]", "internal/bytealg.IndexByteString", "internal/abi.NoEscape", "internal/bytealg.MakeNoZero"], unfollowed := true, recurses := true, named := ["selfstab/expr.words", "internal/strconv.uint64pow10", "math/bits.deBruijn32tab", "math/bits.deBruijn64tab"], apart := false, laid := [("math/bits.deBruijn32tab", laid_math_bits_deBruijn32tab), ("math/bits.deBruijn64tab", laid_math_bits_deBruijn64tab), ("internal/strconv.uint64pow10", laid_internal_strconv_uint64pow10), ("selfstab/expr.words", laid_selfstab_expr_words)], narrowed := true }
def ProgramReadsBackUptoSaid : Prop := programReadsBackUptoRow.holds Tryz.pinned (OpenSpec.upto programReadsBackSpec)

/-- 'selfstablaw08.ProgramIgnoresBlanks', WHERE WHAT IT READS IS OF BULK AT MOST 1048576: true; the input reads as it did. -/
def programIgnoresBlanksUptoRow : OpenClaim := { program := "ytdbahiepihkagaagreatdoor", sum := "a8b6c06f4aa6166e778a8c8c66c256726400a5c5a9e8e2fbc3965f39103589f0", func := "selfstab/selfstablaw08.ProgramIgnoresBlanks", spec := "programIgnoresBlanks", inPlace := ["slices.overlaps[selfstab/api.Term]", "internal/bytealg.IndexByteString", "internal/abi.NoEscape", "internal/bytealg.MakeNoZero"], unfollowed := true, recurses := true, named := ["selfstab/expr.words", "internal/strconv.uint64pow10", "math/bits.deBruijn32tab", "math/bits.deBruijn64tab"], apart := false, laid := [("math/bits.deBruijn32tab", laid_math_bits_deBruijn32tab), ("math/bits.deBruijn64tab", laid_math_bits_deBruijn64tab), ("internal/strconv.uint64pow10", laid_internal_strconv_uint64pow10), ("selfstab/expr.words", laid_selfstab_expr_words)], narrowed := true }
def ProgramIgnoresBlanksUptoSaid : Prop := programIgnoresBlanksUptoRow.holds Tryz.pinned (OpenSpec.upto programIgnoresBlanksSpec)

/-- 'selfstablaw08.ProgramGrowsByLines', WHERE WHAT IT READS IS OF BULK AT MOST 1048576: true; the input reads as it did. -/
def programGrowsByLinesUptoRow : OpenClaim := { program := "ytdbahiepihkagaagreatdoor", sum := "a8b6c06f4aa6166e778a8c8c66c256726400a5c5a9e8e2fbc3965f39103589f0", func := "selfstab/selfstablaw08.ProgramGrowsByLines", spec := "programGrowsByLines", inPlace := ["slices.overlaps[selfstab/api.Term]", "internal/bytealg.IndexByteString", "internal/abi.NoEscape", "internal/bytealg.MakeNoZero"], unfollowed := true, recurses := true, named := ["selfstab/expr.words", "internal/strconv.uint64pow10", "math/bits.deBruijn32tab", "math/bits.deBruijn64tab"], apart := false, laid := [("math/bits.deBruijn32tab", laid_math_bits_deBruijn32tab), ("math/bits.deBruijn64tab", laid_math_bits_deBruijn64tab), ("internal/strconv.uint64pow10", laid_internal_strconv_uint64pow10), ("selfstab/expr.words", laid_selfstab_expr_words)], narrowed := true }
def ProgramGrowsByLinesUptoSaid : Prop := programGrowsByLinesUptoRow.holds Tryz.pinned (OpenSpec.upto programGrowsByLinesSpec)

/-- 'selfstablaw08.ProgramTellsProgramsApart', WHERE WHAT IT READS IS OF BULK AT MOST 1048576: true; the input reads as it did. -/
def programTellsProgramsApartUptoRow : OpenClaim := { program := "ytdbahiepihkagaagreatdoor", sum := "a8b6c06f4aa6166e778a8c8c66c256726400a5c5a9e8e2fbc3965f39103589f0", func := "selfstab/selfstablaw08.ProgramTellsProgramsApart", spec := "programTellsProgramsApart", inPlace := ["slices.overlaps[selfstab/api.Term]", "internal/bytealg.IndexByteString", "internal/abi.NoEscape", "internal/bytealg.MakeNoZero"], unfollowed := true, recurses := true, named := ["selfstab/expr.words", "internal/strconv.uint64pow10", "math/bits.deBruijn32tab", "math/bits.deBruijn64tab"], apart := false, laid := [("math/bits.deBruijn32tab", laid_math_bits_deBruijn32tab), ("math/bits.deBruijn64tab", laid_math_bits_deBruijn64tab), ("internal/strconv.uint64pow10", laid_internal_strconv_uint64pow10), ("selfstab/expr.words", laid_selfstab_expr_words)], narrowed := true }
def ProgramTellsProgramsApartUptoSaid : Prop := programTellsProgramsApartUptoRow.holds Tryz.pinned (OpenSpec.upto programTellsProgramsApartSpec)

end Rows
end Go.Proofs.YtdbahiepihkagaaGreatDoor
