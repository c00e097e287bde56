/-
  NARROWER THAN 'FOR EVERY INPUT', by the rows' own cells (each row's printed sentence says how): ParseRows: laid · ParseBrackets: laid · ParseDeep: laid · NamesOrder: laid · NamesBuilt: laid · NamesHeads: laid.
  DERIVED. THE GIVEN ROWS OF THIS SEAT. 6 by the template 'for every input the law returns true; each argument reads behind the call as it read before'; 0 by the template 'total and deterministic' (their statements: YtbbbbfglhphffaaDoorTotals.lean).
  GIVEN WITH THE SEED: the statements are not yours to turn. If you find one false, say at which input.
  Laid BY PROGRAM, IN A SANDBOX (cutbox-rows.mjs): the forced cells as the released guide's own fill.sh prints them over the translation 22e9500e65c76ab6… (all of the seat's roots in one cut). By AI agents, Wed Nov 11 2026. No macro, syntax, notation, axiom, sorry.
-/
import Derived.Test.YtbbbbfglhphffaaDoorChecked
import GoSem.Claim
import GoSem.ClaimJoined
import GoSem.ClaimMapViews
import Derived.JoinedTies
import Derived.KernelRfl
namespace Go.Proofs.YtbbbbfglhphffaaDoor
/- THE CELL 'sum', in the pinned program and in every row, IS THE sha256 OF THE DUMP (.gsa) THAT YtbbbbfglhphffaaDoorProg.lean LOADS. Nothing in Lean hashes anything: it is a label: what it is worth is what the hold of that sum in a sandbox is worth. -/
noncomputable def Tryd.pinned : Pinned := { name := "ytbbbbfglhphffaadoor", sum := "22e9500e65c76ab6181435039679957efe2f311144cf3647a22fe76b297c6bfb", checked := Tryd.checked }
namespace Rows
def none {H : Type} : Left H := { results := [], args := [] }

/- WHAT THE LISTED PACKAGE-LEVEL VARIABLES READ AS WHEN THE CALL BEGINS. Each datum BY PROGRAM (the guide's laid-datum.mjs) off the statement by which the dump's own 'gosem.cut.vars' lays the variable. In a bare row this is a premise. The card (YtbbbbfglhphffaaDoorCards.lean) ties it to the program's text. -/
def laid_math_bits_deBruijn32tab {H : Type} : DataW H := .agg [.lit (.int .u8 0), .lit (.int .u8 1), .lit (.int .u8 28), .lit (.int .u8 2), .lit (.int .u8 29), .lit (.int .u8 14), .lit (.int .u8 24), .lit (.int .u8 3), .lit (.int .u8 30), .lit (.int .u8 22), .lit (.int .u8 20), .lit (.int .u8 15), .lit (.int .u8 25), .lit (.int .u8 17), .lit (.int .u8 4), .lit (.int .u8 8), .lit (.int .u8 31), .lit (.int .u8 27), .lit (.int .u8 13), .lit (.int .u8 23), .lit (.int .u8 21), .lit (.int .u8 19), .lit (.int .u8 16), .lit (.int .u8 7), .lit (.int .u8 26), .lit (.int .u8 12), .lit (.int .u8 18), .lit (.int .u8 6), .lit (.int .u8 11), .lit (.int .u8 5), .lit (.int .u8 10), .lit (.int .u8 9)]
def laid_math_bits_deBruijn64tab {H : Type} : DataW H := .agg [.lit (.int .u8 0), .lit (.int .u8 1), .lit (.int .u8 56), .lit (.int .u8 2), .lit (.int .u8 57), .lit (.int .u8 49), .lit (.int .u8 28), .lit (.int .u8 3), .lit (.int .u8 61), .lit (.int .u8 58), .lit (.int .u8 42), .lit (.int .u8 50), .lit (.int .u8 38), .lit (.int .u8 29), .lit (.int .u8 17), .lit (.int .u8 4), .lit (.int .u8 62), .lit (.int .u8 47), .lit (.int .u8 59), .lit (.int .u8 36), .lit (.int .u8 45), .lit (.int .u8 43), .lit (.int .u8 51), .lit (.int .u8 22), .lit (.int .u8 53), .lit (.int .u8 39), .lit (.int .u8 33), .lit (.int .u8 30), .lit (.int .u8 24), .lit (.int .u8 18), .lit (.int .u8 12), .lit (.int .u8 5), .lit (.int .u8 63), .lit (.int .u8 55), .lit (.int .u8 48), .lit (.int .u8 27), .lit (.int .u8 60), .lit (.int .u8 41), .lit (.int .u8 37), .lit (.int .u8 16), .lit (.int .u8 46), .lit (.int .u8 35), .lit (.int .u8 44), .lit (.int .u8 21), .lit (.int .u8 52), .lit (.int .u8 32), .lit (.int .u8 23), .lit (.int .u8 11), .lit (.int .u8 54), .lit (.int .u8 26), .lit (.int .u8 40), .lit (.int .u8 15), .lit (.int .u8 34), .lit (.int .u8 20), .lit (.int .u8 31), .lit (.int .u8 10), .lit (.int .u8 25), .lit (.int .u8 14), .lit (.int .u8 19), .lit (.int .u8 9), .lit (.int .u8 13), .lit (.int .u8 8), .lit (.int .u8 7), .lit (.int .u8 6)]
def laid_internal_strconv_uint64pow10 {H : Type} : DataW H := .agg [.lit (.int .u64 1), .lit (.int .u64 10), .lit (.int .u64 100), .lit (.int .u64 1000), .lit (.int .u64 10000), .lit (.int .u64 100000), .lit (.int .u64 1000000), .lit (.int .u64 10000000), .lit (.int .u64 100000000), .lit (.int .u64 1000000000), .lit (.int .u64 10000000000), .lit (.int .u64 100000000000), .lit (.int .u64 1000000000000), .lit (.int .u64 10000000000000), .lit (.int .u64 100000000000000), .lit (.int .u64 1000000000000000), .lit (.int .u64 10000000000000000), .lit (.int .u64 100000000000000000), .lit (.int .u64 1000000000000000000), .lit (.int .u64 10000000000000000000)]
def laid_augur_api_ErrText {H : Type} : DataW H := .iface "*errors.errorString" (.ptr (.agg [.lit (.string [97, 117, 103, 117, 114, 58, 32, 116, 101, 120, 116])]))
def laid_augur_api_ErrSyntax {H : Type} : DataW H := .iface "*errors.errorString" (.ptr (.agg [.lit (.string [97, 117, 103, 117, 114, 58, 32, 115, 121, 110, 116, 97, 120])]))
def laid_augur_api_ErrNest {H : Type} : DataW H := .iface "*errors.errorString" (.ptr (.agg [.lit (.string [97, 117, 103, 117, 114, 58, 32, 110, 101, 115, 116])]))
def laid_augur_api_ErrLarge {H : Type} : DataW H := .iface "*errors.errorString" (.ptr (.agg [.lit (.string [97, 117, 103, 117, 114, 58, 32, 108, 97, 114, 103, 101])]))
def laid_strconv_ErrRange {H : Type} : DataW H := .iface "*errors.errorString" (.ptr (.agg [.lit (.string [118, 97, 108, 117, 101, 32, 111, 117, 116, 32, 111, 102, 32, 114, 97, 110, 103, 101])]))
def laid_strconv_ErrSyntax {H : Type} : DataW H := .iface "*errors.errorString" (.ptr (.agg [.lit (.string [105, 110, 118, 97, 108, 105, 100, 32, 115, 121, 110, 116, 97, 120])]))
def laid_augur_api_ErrNames {H : Type} : DataW H := .iface "*errors.errorString" (.ptr (.agg [.lit (.string [97, 117, 103, 117, 114, 58, 32, 110, 97, 109, 101, 115])]))
def laid_augur_api_ErrTypes {H : Type} : DataW H := .iface "*errors.errorString" (.ptr (.agg [.lit (.string [97, 117, 103, 117, 114, 58, 32, 116, 121, 112, 101, 115])]))
def laid_augur_api_ErrModes {H : Type} : DataW H := .iface "*errors.errorString" (.ptr (.agg [.lit (.string [97, 117, 103, 117, 114, 58, 32, 109, 111, 100, 101, 115])]))
def laid_augur_api_ErrDet {H : Type} : DataW H := .iface "*errors.errorString" (.ptr (.agg [.lit (.string [97, 117, 103, 117, 114, 58, 32, 100, 101, 116, 101, 114, 109, 105, 110, 105, 115, 109])]))
def laid_augur_api_ErrNone {H : Type} : DataW H := .iface "*errors.errorString" (.ptr (.agg [.lit (.string [97, 117, 103, 117, 114, 58, 32, 110, 111, 110, 101])]))
def laid_augur_api_ErrData {H : Type} : DataW H := .iface "*errors.errorString" (.ptr (.agg [.lit (.string [97, 117, 103, 117, 114, 58, 32, 100, 97, 116, 97])]))
def laid_augur_api_ErrBytes {H : Type} : DataW H := .iface "*errors.errorString" (.ptr (.agg [.lit (.string [97, 117, 103, 117, 114, 58, 32, 98, 121, 116, 101, 115])]))
def laid_augur_api_ErrCode {H : Type} : DataW H := .iface "*errors.errorString" (.ptr (.agg [.lit (.string [97, 117, 103, 117, 114, 58, 32, 99, 111, 100, 101])]))
def laid_augur_api_ErrFuel {H : Type} : DataW H := .iface "*errors.errorString" (.ptr (.agg [.lit (.string [97, 117, 103, 117, 114, 58, 32, 102, 117, 101, 108])]))
def laid_augur_api_ErrHeap {H : Type} : DataW H := .iface "*errors.errorString" (.ptr (.agg [.lit (.string [97, 117, 103, 117, 114, 58, 32, 104, 101, 97, 112])]))
def laid_augur_api_ErrFrames {H : Type} : DataW H := .iface "*errors.errorString" (.ptr (.agg [.lit (.string [97, 117, 103, 117, 114, 58, 32, 102, 114, 97, 109, 101, 115])]))
def laid_augur_api_ErrState {H : Type} : DataW H := .iface "*errors.errorString" (.ptr (.agg [.lit (.string [97, 117, 103, 117, 114, 58, 32, 115, 116, 97, 116, 101])]))
def laid_augur_names_builtins {H : Type} : DataW H := .agg [.agg [.lit (.string [97, 100, 100]), .lit (.int .i64 3)], .agg [.lit (.string [115, 117, 98]), .lit (.int .i64 3)], .agg [.lit (.string [109, 117, 108]), .lit (.int .i64 3)], .agg [.lit (.string [100, 105, 118]), .lit (.int .i64 3)], .agg [.lit (.string [109, 111, 100]), .lit (.int .i64 3)], .agg [.lit (.string [108, 116]), .lit (.int .i64 2)], .agg [.lit (.string [108, 101]), .lit (.int .i64 2)]]

/-- 'augurlaw02.ParseRows': WHATEVER THE INPUT: true; the input reads as it did. -/
def parseRowsSpec : ChangeSpec := { name := "parseRows", fn := fun _ => fun
  | [d1, d2] => { results := [.lit (.bool true)], args := [d1, d2] }
  | _ => none }
def parseRowsRow : OpenClaim := { program := "ytbbbbfglhphffaadoor", sum := "22e9500e65c76ab6181435039679957efe2f311144cf3647a22fe76b297c6bfb", func := "augur/augurlaw02.ParseRows", spec := "parseRows", inPlace := ["internal/bytealg.IndexByteString"], unfollowed := true, recurses := true, named := ["augur/api.ErrLarge", "augur/api.ErrSyntax", "augur/api.ErrNest", "augur/api.ErrText", "strconv.ErrSyntax", "strconv.ErrRange", "internal/strconv.uint64pow10", "math/bits.deBruijn32tab", "math/bits.deBruijn64tab"], plainKeys := false, apart := false, laid := [("math/bits.deBruijn32tab", laid_math_bits_deBruijn32tab), ("math/bits.deBruijn64tab", laid_math_bits_deBruijn64tab), ("internal/strconv.uint64pow10", laid_internal_strconv_uint64pow10), ("augur/api.ErrText", laid_augur_api_ErrText), ("augur/api.ErrSyntax", laid_augur_api_ErrSyntax), ("augur/api.ErrNest", laid_augur_api_ErrNest), ("augur/api.ErrLarge", laid_augur_api_ErrLarge), ("strconv.ErrRange", laid_strconv_ErrRange), ("strconv.ErrSyntax", laid_strconv_ErrSyntax)] }
def ParseRowsSaid : Prop := parseRowsRow.holds Tryd.pinned (OpenSpec.ofChange parseRowsSpec)

/-- ITS FALSE NEIGHBOUR: 'it returns false'. Refute it at one input. -/
def parseRowsWrong : ChangeSpec := { name := "parseRows", fn := fun _ => fun
  | [d1, d2] => { results := [.lit (.bool false)], args := [d1, d2] }
  | _ => none }
def ParseRowsWrongFalsely : Prop := parseRowsRow.holds Tryd.pinned (OpenSpec.ofChange parseRowsWrong)

/-- 'augurlaw02.ParseBrackets': WHATEVER THE INPUT: true; the input reads as it did. -/
def parseBracketsSpec : ChangeSpec := { name := "parseBrackets", fn := fun _ => fun
  | [d] => { results := [.lit (.bool true)], args := [d] }
  | _ => none }
def parseBracketsRow : OpenClaim := { program := "ytbbbbfglhphffaadoor", sum := "22e9500e65c76ab6181435039679957efe2f311144cf3647a22fe76b297c6bfb", func := "augur/augurlaw02.ParseBrackets", spec := "parseBrackets", inPlace := ["internal/bytealg.IndexByteString"], unfollowed := true, recurses := true, named := ["augur/api.ErrNest", "augur/api.ErrLarge", "augur/api.ErrSyntax", "augur/api.ErrText", "strconv.ErrSyntax", "strconv.ErrRange", "internal/strconv.uint64pow10", "math/bits.deBruijn32tab", "math/bits.deBruijn64tab"], plainKeys := false, apart := false, laid := [("math/bits.deBruijn32tab", laid_math_bits_deBruijn32tab), ("math/bits.deBruijn64tab", laid_math_bits_deBruijn64tab), ("internal/strconv.uint64pow10", laid_internal_strconv_uint64pow10), ("augur/api.ErrText", laid_augur_api_ErrText), ("augur/api.ErrSyntax", laid_augur_api_ErrSyntax), ("augur/api.ErrNest", laid_augur_api_ErrNest), ("augur/api.ErrLarge", laid_augur_api_ErrLarge), ("strconv.ErrRange", laid_strconv_ErrRange), ("strconv.ErrSyntax", laid_strconv_ErrSyntax)] }
def ParseBracketsSaid : Prop := parseBracketsRow.holds Tryd.pinned (OpenSpec.ofChange parseBracketsSpec)

/-- ITS FALSE NEIGHBOUR: 'it returns false'. Refute it at one input. -/
def parseBracketsWrong : ChangeSpec := { name := "parseBrackets", fn := fun _ => fun
  | [d] => { results := [.lit (.bool false)], args := [d] }
  | _ => none }
def ParseBracketsWrongFalsely : Prop := parseBracketsRow.holds Tryd.pinned (OpenSpec.ofChange parseBracketsWrong)

/-- 'augurlaw02.ParseDeep': WHATEVER THE INPUT: true; the input reads as it did. -/
def parseDeepSpec : ChangeSpec := { name := "parseDeep", fn := fun _ => fun
  | [d] => { results := [.lit (.bool true)], args := [d] }
  | _ => none }
def parseDeepRow : OpenClaim := { program := "ytbbbbfglhphffaadoor", sum := "22e9500e65c76ab6181435039679957efe2f311144cf3647a22fe76b297c6bfb", func := "augur/augurlaw02.ParseDeep", spec := "parseDeep", inPlace := ["internal/bytealg.IndexByteString"], unfollowed := true, recurses := true, named := ["augur/api.ErrNest", "augur/api.ErrLarge", "augur/api.ErrSyntax", "augur/api.ErrText", "strconv.ErrSyntax", "strconv.ErrRange", "internal/strconv.uint64pow10", "math/bits.deBruijn32tab", "math/bits.deBruijn64tab"], plainKeys := false, apart := false, laid := [("math/bits.deBruijn32tab", laid_math_bits_deBruijn32tab), ("math/bits.deBruijn64tab", laid_math_bits_deBruijn64tab), ("internal/strconv.uint64pow10", laid_internal_strconv_uint64pow10), ("augur/api.ErrText", laid_augur_api_ErrText), ("augur/api.ErrSyntax", laid_augur_api_ErrSyntax), ("augur/api.ErrNest", laid_augur_api_ErrNest), ("augur/api.ErrLarge", laid_augur_api_ErrLarge), ("strconv.ErrRange", laid_strconv_ErrRange), ("strconv.ErrSyntax", laid_strconv_ErrSyntax)] }
def ParseDeepSaid : Prop := parseDeepRow.holds Tryd.pinned (OpenSpec.ofChange parseDeepSpec)

/-- ITS FALSE NEIGHBOUR: 'it returns false'. Refute it at one input. -/
def parseDeepWrong : ChangeSpec := { name := "parseDeep", fn := fun _ => fun
  | [d] => { results := [.lit (.bool false)], args := [d] }
  | _ => none }
def ParseDeepWrongFalsely : Prop := parseDeepRow.holds Tryd.pinned (OpenSpec.ofChange parseDeepWrong)

/-- 'augurlaw04.NamesOrder': WHATEVER THE INPUT: true; the input reads as it did. -/
def namesOrderSpec : ChangeSpec := { name := "namesOrder", fn := fun _ => fun
  | [d] => { results := [.lit (.bool true)], args := [d] }
  | _ => none }
def namesOrderRow : OpenClaim := { program := "ytbbbbfglhphffaadoor", sum := "22e9500e65c76ab6181435039679957efe2f311144cf3647a22fe76b297c6bfb", func := "augur/augurlaw04.NamesOrder", spec := "namesOrder", unfollowed := true, recurses := true, named := ["augur/api.ErrNames", "augur/names.builtins", "augur/api.ErrText", "augur/api.ErrSyntax", "augur/api.ErrNest", "augur/api.ErrLarge", "augur/api.ErrTypes", "augur/api.ErrModes", "augur/api.ErrDet", "augur/api.ErrNone", "augur/api.ErrData", "augur/api.ErrBytes", "augur/api.ErrCode", "augur/api.ErrFuel", "augur/api.ErrHeap", "augur/api.ErrFrames", "augur/api.ErrState"], plainKeys := false, apart := false, laid := [("augur/api.ErrText", laid_augur_api_ErrText), ("augur/api.ErrSyntax", laid_augur_api_ErrSyntax), ("augur/api.ErrNest", laid_augur_api_ErrNest), ("augur/api.ErrLarge", laid_augur_api_ErrLarge), ("augur/api.ErrNames", laid_augur_api_ErrNames), ("augur/api.ErrTypes", laid_augur_api_ErrTypes), ("augur/api.ErrModes", laid_augur_api_ErrModes), ("augur/api.ErrDet", laid_augur_api_ErrDet), ("augur/api.ErrNone", laid_augur_api_ErrNone), ("augur/api.ErrData", laid_augur_api_ErrData), ("augur/api.ErrBytes", laid_augur_api_ErrBytes), ("augur/api.ErrCode", laid_augur_api_ErrCode), ("augur/api.ErrFuel", laid_augur_api_ErrFuel), ("augur/api.ErrHeap", laid_augur_api_ErrHeap), ("augur/api.ErrFrames", laid_augur_api_ErrFrames), ("augur/api.ErrState", laid_augur_api_ErrState), ("augur/names.builtins", laid_augur_names_builtins)] }
def NamesOrderSaid : Prop := namesOrderRow.holds Tryd.pinned (OpenSpec.ofChange namesOrderSpec)

/-- ITS FALSE NEIGHBOUR: 'it returns false'. Refute it at one input. -/
def namesOrderWrong : ChangeSpec := { name := "namesOrder", fn := fun _ => fun
  | [d] => { results := [.lit (.bool false)], args := [d] }
  | _ => none }
def NamesOrderWrongFalsely : Prop := namesOrderRow.holds Tryd.pinned (OpenSpec.ofChange namesOrderWrong)

/-- 'augurlaw04.NamesBuilt': WHATEVER THE INPUT: true; the input reads as it did. -/
def namesBuiltSpec : ChangeSpec := { name := "namesBuilt", fn := fun _ => fun
  | [d1, d2] => { results := [.lit (.bool true)], args := [d1, d2] }
  | _ => none }
def namesBuiltRow : OpenClaim := { program := "ytbbbbfglhphffaadoor", sum := "22e9500e65c76ab6181435039679957efe2f311144cf3647a22fe76b297c6bfb", func := "augur/augurlaw04.NamesBuilt", spec := "namesBuilt", unfollowed := true, recurses := true, named := ["augur/api.ErrNames", "augur/names.builtins"], plainKeys := false, apart := false, laid := [("augur/api.ErrNames", laid_augur_api_ErrNames), ("augur/names.builtins", laid_augur_names_builtins)] }
def NamesBuiltSaid : Prop := namesBuiltRow.holds Tryd.pinned (OpenSpec.ofChange namesBuiltSpec)

/-- ITS FALSE NEIGHBOUR: 'it returns false'. Refute it at one input. -/
def namesBuiltWrong : ChangeSpec := { name := "namesBuilt", fn := fun _ => fun
  | [d1, d2] => { results := [.lit (.bool false)], args := [d1, d2] }
  | _ => none }
def NamesBuiltWrongFalsely : Prop := namesBuiltRow.holds Tryd.pinned (OpenSpec.ofChange namesBuiltWrong)

/-- 'augurlaw04.NamesHeads': WHATEVER THE INPUT: true; the input reads as it did. -/
def namesHeadsSpec : ChangeSpec := { name := "namesHeads", fn := fun _ => fun
  | [d] => { results := [.lit (.bool true)], args := [d] }
  | _ => none }
def namesHeadsRow : OpenClaim := { program := "ytbbbbfglhphffaadoor", sum := "22e9500e65c76ab6181435039679957efe2f311144cf3647a22fe76b297c6bfb", func := "augur/augurlaw04.NamesHeads", spec := "namesHeads", unfollowed := true, recurses := true, named := ["augur/api.ErrNames", "augur/names.builtins"], plainKeys := false, apart := false, laid := [("augur/api.ErrNames", laid_augur_api_ErrNames), ("augur/names.builtins", laid_augur_names_builtins)] }
def NamesHeadsSaid : Prop := namesHeadsRow.holds Tryd.pinned (OpenSpec.ofChange namesHeadsSpec)

/-- ITS FALSE NEIGHBOUR: 'it returns false'. Refute it at one input. -/
def namesHeadsWrong : ChangeSpec := { name := "namesHeads", fn := fun _ => fun
  | [d] => { results := [.lit (.bool false)], args := [d] }
  | _ => none }
def NamesHeadsWrongFalsely : Prop := namesHeadsRow.holds Tryd.pinned (OpenSpec.ofChange namesHeadsWrong)

/- THE SECOND FORM. 'bulk': how many values and letters a reading holds, each counted each time it is reached (what is shared counts as often as it is met; a slice's spare places count too). A statement '..UptoSaid' is the law's where the arguments, and the package variables that the reading takes, are together of bulk at most 1048576: NARROWER than '..Said'. Prove '..Said' where nothing that the law and all that it calls make is longer than what came in: it says more and counts as full. Else prove '..UptoSaid'. A law counts once. -/
mutual
def uptoBulk {H : Type} : DataW H → Nat
  | .lit (.string bytes) => bytes.length + 1
  | .lit _ => 1
  | .nil => 1
  | .ptr d => uptoBulk d + 1
  | .slice elems spare => uptoBulkAll elems + uptoBulkAll spare + 1
  | .agg parts => uptoBulkAll parts + 1
  | .iface _ d => uptoBulk d + 1
  | .map entries => uptoBulkEntries entries + 1
  | .held _ => 1
def uptoBulkAll {H : Type} : List (DataW H) → Nat
  | [] => 0
  | d :: r => uptoBulk d + uptoBulkAll r
def uptoBulkEntries {H : Type} : List (Lit × DataW H) → Nat
  | [] => 0
  | x :: r => uptoBulkEntry x + uptoBulkEntries r
def uptoBulkEntry {H : Type} : Lit × DataW H → Nat
  | (.string bytes, d) => bytes.length + uptoBulk d + 1
  | (_, d) => uptoBulk d + 1
 end
def uptoSmall : (H : Type) → List (DataW H) → Bool := fun _ ds => decide (uptoBulkAll ds ≤ 1048576)
def OpenSpec.upto (s : _root_.Go.ChangeSpec) : _root_.Go.OpenSpec := { _root_.Go.OpenSpec.ofChange s with cond := some uptoSmall }

/-- 'augurlaw02.ParseRows', WHERE WHAT IT READS IS OF BULK AT MOST 1048576: true; the input reads as it did. -/
def parseRowsUptoRow : OpenClaim := { program := "ytbbbbfglhphffaadoor", sum := "22e9500e65c76ab6181435039679957efe2f311144cf3647a22fe76b297c6bfb", func := "augur/augurlaw02.ParseRows", spec := "parseRows", inPlace := ["internal/bytealg.IndexByteString"], unfollowed := true, recurses := true, named := ["augur/api.ErrLarge", "augur/api.ErrSyntax", "augur/api.ErrNest", "augur/api.ErrText", "strconv.ErrSyntax", "strconv.ErrRange", "internal/strconv.uint64pow10", "math/bits.deBruijn32tab", "math/bits.deBruijn64tab"], plainKeys := false, apart := false, laid := [("math/bits.deBruijn32tab", laid_math_bits_deBruijn32tab), ("math/bits.deBruijn64tab", laid_math_bits_deBruijn64tab), ("internal/strconv.uint64pow10", laid_internal_strconv_uint64pow10), ("augur/api.ErrText", laid_augur_api_ErrText), ("augur/api.ErrSyntax", laid_augur_api_ErrSyntax), ("augur/api.ErrNest", laid_augur_api_ErrNest), ("augur/api.ErrLarge", laid_augur_api_ErrLarge), ("strconv.ErrRange", laid_strconv_ErrRange), ("strconv.ErrSyntax", laid_strconv_ErrSyntax)], narrowed := true }
def ParseRowsUptoSaid : Prop := parseRowsUptoRow.holds Tryd.pinned (OpenSpec.upto parseRowsSpec)

/-- 'augurlaw02.ParseBrackets', WHERE WHAT IT READS IS OF BULK AT MOST 1048576: true; the input reads as it did. -/
def parseBracketsUptoRow : OpenClaim := { program := "ytbbbbfglhphffaadoor", sum := "22e9500e65c76ab6181435039679957efe2f311144cf3647a22fe76b297c6bfb", func := "augur/augurlaw02.ParseBrackets", spec := "parseBrackets", inPlace := ["internal/bytealg.IndexByteString"], unfollowed := true, recurses := true, named := ["augur/api.ErrNest", "augur/api.ErrLarge", "augur/api.ErrSyntax", "augur/api.ErrText", "strconv.ErrSyntax", "strconv.ErrRange", "internal/strconv.uint64pow10", "math/bits.deBruijn32tab", "math/bits.deBruijn64tab"], plainKeys := false, apart := false, laid := [("math/bits.deBruijn32tab", laid_math_bits_deBruijn32tab), ("math/bits.deBruijn64tab", laid_math_bits_deBruijn64tab), ("internal/strconv.uint64pow10", laid_internal_strconv_uint64pow10), ("augur/api.ErrText", laid_augur_api_ErrText), ("augur/api.ErrSyntax", laid_augur_api_ErrSyntax), ("augur/api.ErrNest", laid_augur_api_ErrNest), ("augur/api.ErrLarge", laid_augur_api_ErrLarge), ("strconv.ErrRange", laid_strconv_ErrRange), ("strconv.ErrSyntax", laid_strconv_ErrSyntax)], narrowed := true }
def ParseBracketsUptoSaid : Prop := parseBracketsUptoRow.holds Tryd.pinned (OpenSpec.upto parseBracketsSpec)

/-- 'augurlaw02.ParseDeep', WHERE WHAT IT READS IS OF BULK AT MOST 1048576: true; the input reads as it did. -/
def parseDeepUptoRow : OpenClaim := { program := "ytbbbbfglhphffaadoor", sum := "22e9500e65c76ab6181435039679957efe2f311144cf3647a22fe76b297c6bfb", func := "augur/augurlaw02.ParseDeep", spec := "parseDeep", inPlace := ["internal/bytealg.IndexByteString"], unfollowed := true, recurses := true, named := ["augur/api.ErrNest", "augur/api.ErrLarge", "augur/api.ErrSyntax", "augur/api.ErrText", "strconv.ErrSyntax", "strconv.ErrRange", "internal/strconv.uint64pow10", "math/bits.deBruijn32tab", "math/bits.deBruijn64tab"], plainKeys := false, apart := false, laid := [("math/bits.deBruijn32tab", laid_math_bits_deBruijn32tab), ("math/bits.deBruijn64tab", laid_math_bits_deBruijn64tab), ("internal/strconv.uint64pow10", laid_internal_strconv_uint64pow10), ("augur/api.ErrText", laid_augur_api_ErrText), ("augur/api.ErrSyntax", laid_augur_api_ErrSyntax), ("augur/api.ErrNest", laid_augur_api_ErrNest), ("augur/api.ErrLarge", laid_augur_api_ErrLarge), ("strconv.ErrRange", laid_strconv_ErrRange), ("strconv.ErrSyntax", laid_strconv_ErrSyntax)], narrowed := true }
def ParseDeepUptoSaid : Prop := parseDeepUptoRow.holds Tryd.pinned (OpenSpec.upto parseDeepSpec)

/-- 'augurlaw04.NamesOrder', WHERE WHAT IT READS IS OF BULK AT MOST 1048576: true; the input reads as it did. -/
def namesOrderUptoRow : OpenClaim := { program := "ytbbbbfglhphffaadoor", sum := "22e9500e65c76ab6181435039679957efe2f311144cf3647a22fe76b297c6bfb", func := "augur/augurlaw04.NamesOrder", spec := "namesOrder", unfollowed := true, recurses := true, named := ["augur/api.ErrNames", "augur/names.builtins", "augur/api.ErrText", "augur/api.ErrSyntax", "augur/api.ErrNest", "augur/api.ErrLarge", "augur/api.ErrTypes", "augur/api.ErrModes", "augur/api.ErrDet", "augur/api.ErrNone", "augur/api.ErrData", "augur/api.ErrBytes", "augur/api.ErrCode", "augur/api.ErrFuel", "augur/api.ErrHeap", "augur/api.ErrFrames", "augur/api.ErrState"], plainKeys := false, apart := false, laid := [("augur/api.ErrText", laid_augur_api_ErrText), ("augur/api.ErrSyntax", laid_augur_api_ErrSyntax), ("augur/api.ErrNest", laid_augur_api_ErrNest), ("augur/api.ErrLarge", laid_augur_api_ErrLarge), ("augur/api.ErrNames", laid_augur_api_ErrNames), ("augur/api.ErrTypes", laid_augur_api_ErrTypes), ("augur/api.ErrModes", laid_augur_api_ErrModes), ("augur/api.ErrDet", laid_augur_api_ErrDet), ("augur/api.ErrNone", laid_augur_api_ErrNone), ("augur/api.ErrData", laid_augur_api_ErrData), ("augur/api.ErrBytes", laid_augur_api_ErrBytes), ("augur/api.ErrCode", laid_augur_api_ErrCode), ("augur/api.ErrFuel", laid_augur_api_ErrFuel), ("augur/api.ErrHeap", laid_augur_api_ErrHeap), ("augur/api.ErrFrames", laid_augur_api_ErrFrames), ("augur/api.ErrState", laid_augur_api_ErrState), ("augur/names.builtins", laid_augur_names_builtins)], narrowed := true }
def NamesOrderUptoSaid : Prop := namesOrderUptoRow.holds Tryd.pinned (OpenSpec.upto namesOrderSpec)

/-- 'augurlaw04.NamesBuilt', WHERE WHAT IT READS IS OF BULK AT MOST 1048576: true; the input reads as it did. -/
def namesBuiltUptoRow : OpenClaim := { program := "ytbbbbfglhphffaadoor", sum := "22e9500e65c76ab6181435039679957efe2f311144cf3647a22fe76b297c6bfb", func := "augur/augurlaw04.NamesBuilt", spec := "namesBuilt", unfollowed := true, recurses := true, named := ["augur/api.ErrNames", "augur/names.builtins"], plainKeys := false, apart := false, laid := [("augur/api.ErrNames", laid_augur_api_ErrNames), ("augur/names.builtins", laid_augur_names_builtins)], narrowed := true }
def NamesBuiltUptoSaid : Prop := namesBuiltUptoRow.holds Tryd.pinned (OpenSpec.upto namesBuiltSpec)

/-- 'augurlaw04.NamesHeads', WHERE WHAT IT READS IS OF BULK AT MOST 1048576: true; the input reads as it did. -/
def namesHeadsUptoRow : OpenClaim := { program := "ytbbbbfglhphffaadoor", sum := "22e9500e65c76ab6181435039679957efe2f311144cf3647a22fe76b297c6bfb", func := "augur/augurlaw04.NamesHeads", spec := "namesHeads", unfollowed := true, recurses := true, named := ["augur/api.ErrNames", "augur/names.builtins"], plainKeys := false, apart := false, laid := [("augur/api.ErrNames", laid_augur_api_ErrNames), ("augur/names.builtins", laid_augur_names_builtins)], narrowed := true }
def NamesHeadsUptoSaid : Prop := namesHeadsUptoRow.holds Tryd.pinned (OpenSpec.upto namesHeadsSpec)

end Rows
end Go.Proofs.YtbbbbfglhphffaaDoor
