/-
  NARROWER THAN 'FOR EVERY INPUT', by the rows' own cells (each row's printed sentence says how): StmtTexts: laid · StmtLines: laid.
  DERIVED. THE GIVEN ROWS OF THIS SEAT. 2 by the template 'for every input the law returns true; each argument reads behind the call as it read before'; 0 by the template 'total and deterministic' (their statements: YtdganemgldocoaaGreatDoorTotals.lean).
  GIVEN WITH THE SEED: the statements are not yours to turn. If you find one false, say at which input.
  Laid BY PROGRAM, IN A SANDBOX (cutbox-rows.mjs): the forced cells as the released guide's own fill.sh prints them over the translation e6e715b8fe40176a… (all of the seat's roots in one cut). By AI agents, Wed Nov 11 2026. No macro, syntax, notation, axiom, sorry.
-/
import Derived.Test.YtdganemgldocoaaGreatDoorChecked
import GoSem.PinnedTables
import GoSem.Claim
import GoSem.ClaimJoined
import GoSem.ClaimMapViews
import Derived.JoinedTies
import Derived.KernelRfl
namespace Go.Proofs.YtdganemgldocoaaGreatDoor
/- THE CELL 'sum', in the pinned program and in every row, IS THE sha256 OF THE DUMP (.gsa) THAT YtdganemgldocoaaGreatDoorProg.lean LOADS. Nothing in Lean hashes anything: it is a label: what it is worth is what the hold of that sum in a sandbox is worth. -/
noncomputable def Tryz.pinned : Pinned := { name := "ytdganemgldocoaagreatdoor", sum := "e6e715b8fe40176a9a0429d1f1817df7c9889e49a85dbe0d6ad607251d525900", checked := Tryz.checked }
namespace Rows
def none {H : Type} : Left H := { results := [], args := [] }

/- WHAT THE LISTED PACKAGE-LEVEL VARIABLES READ AS WHEN THE CALL BEGINS. Each datum BY PROGRAM (the guide's laid-datum.mjs) off the statement by which the dump's own 'gosem.cut.vars' lays the variable. In a bare row this is a premise. The card (YtdganemgldocoaaGreatDoorCards.lean) ties it to the program's text. -/
def laid_unicode_utf8_acceptRanges {H : Type} : DataW H := .agg [.agg [.lit (.int .u8 128), .lit (.int .u8 191)], .agg [.lit (.int .u8 160), .lit (.int .u8 191)], .agg [.lit (.int .u8 128), .lit (.int .u8 159)], .agg [.lit (.int .u8 144), .lit (.int .u8 191)], .agg [.lit (.int .u8 128), .lit (.int .u8 143)], .agg [.lit (.int .u8 0), .lit (.int .u8 0)], .agg [.lit (.int .u8 0), .lit (.int .u8 0)], .agg [.lit (.int .u8 0), .lit (.int .u8 0)], .agg [.lit (.int .u8 0), .lit (.int .u8 0)], .agg [.lit (.int .u8 0), .lit (.int .u8 0)], .agg [.lit (.int .u8 0), .lit (.int .u8 0)], .agg [.lit (.int .u8 0), .lit (.int .u8 0)], .agg [.lit (.int .u8 0), .lit (.int .u8 0)], .agg [.lit (.int .u8 0), .lit (.int .u8 0)], .agg [.lit (.int .u8 0), .lit (.int .u8 0)], .agg [.lit (.int .u8 0), .lit (.int .u8 0)]]
def laid_errors_errorType {H : Type} : DataW H := .iface "internal/reflectlite.rtype" (.agg [.ptr (.lit (.string [101, 114, 114, 111, 114]))])
def laid_millwright_api_ErrRange {H : Type} : DataW H := .iface "*errors.errorString" (.ptr (.agg [.lit (.string [97, 32, 110, 117, 109, 98, 101, 114, 32, 105, 115, 32, 111, 117, 116, 32, 111, 102, 32, 105, 116, 115, 32, 114, 97, 110, 103, 101])]))
def laid_millwright_api_ErrLong {H : Type} : DataW H := .iface "*errors.errorString" (.ptr (.agg [.lit (.string [116, 104, 101, 114, 101, 32, 105, 115, 32, 109, 111, 114, 101, 32, 116, 104, 97, 110, 32, 109, 97, 121, 32, 98, 101])]))
def laid_millwright_api_ErrForm {H : Type} : DataW H := .iface "*errors.errorString" (.ptr (.agg [.lit (.string [105, 116, 32, 105, 115, 32, 110, 111, 116, 32, 111, 102, 32, 105, 116, 115, 32, 102, 111, 114, 109])]))
def laid_millwright_api_ErrName {H : Type} : DataW H := .iface "*errors.errorString" (.ptr (.agg [.lit (.string [105, 116, 32, 105, 115, 32, 110, 111, 32, 114, 105, 103, 104, 116, 32, 110, 97, 109, 101])]))
def laid_millwright_api_ErrQuote {H : Type} : DataW H := .iface "*errors.errorString" (.ptr (.agg [.lit (.string [97, 32, 113, 117, 111, 116, 101, 32, 104, 97, 115, 32, 110, 111, 32, 101, 110, 100])]))
def laid_millwright_api_ErrRegex {H : Type} : DataW H := .iface "*errors.errorString" (.ptr (.agg [.lit (.string [105, 116, 32, 105, 115, 32, 110, 111, 32, 114, 101, 103, 117, 108, 97, 114, 32, 101, 120, 112, 114, 101, 115, 115, 105, 111, 110])]))
def laid_millwright_api_ErrAttr {H : Type} : DataW H := .iface "*errors.errorString" (.ptr (.agg [.lit (.string [105, 116, 32, 105, 115, 32, 110, 111, 32, 97, 116, 116, 114, 105, 98, 117, 116, 101])]))
def laid_millwright_api_ErrNone {H : Type} : DataW H := .iface "*errors.errorString" (.ptr (.agg [.lit (.string [116, 104, 101, 114, 101, 32, 105, 115, 32, 110, 111, 110, 101])]))
def laid_millwright_api_ErrDup {H : Type} : DataW H := .iface "*errors.errorString" (.ptr (.agg [.lit (.string [105, 116, 32, 105, 115, 32, 116, 104, 101, 114, 101, 32, 97, 108, 114, 101, 97, 100, 121])]))
def laid_millwright_api_ErrFull {H : Type} : DataW H := .iface "*errors.errorString" (.ptr (.agg [.lit (.string [116, 104, 101, 114, 101, 32, 105, 115, 32, 110, 111, 32, 109, 111, 114, 101, 32, 114, 111, 111, 109])]))
def laid_millwright_api_ErrDepth {H : Type} : DataW H := .iface "*errors.errorString" (.ptr (.agg [.lit (.string [105, 116, 32, 103, 111, 101, 115, 32, 116, 111, 111, 32, 100, 101, 101, 112])]))
def laid_millwright_api_ErrCycle {H : Type} : DataW H := .iface "*errors.errorString" (.ptr (.agg [.lit (.string [105, 116, 32, 108, 101, 97, 100, 115, 32, 98, 97, 99, 107, 32, 116, 111, 32, 105, 116, 115, 101, 108, 102])]))
def laid_millwright_api_ErrAmbig {H : Type} : DataW H := .iface "*errors.errorString" (.ptr (.agg [.lit (.string [116, 104, 101, 114, 101, 32, 97, 114, 101, 32, 115, 101, 118, 101, 114, 97, 108, 32, 119, 97, 121, 115, 32, 116, 111, 32, 109, 97, 107, 101, 32, 105, 116])]))
def laid_millwright_api_ErrState {H : Type} : DataW H := .iface "*errors.errorString" (.ptr (.agg [.lit (.string [105, 116, 32, 99, 97, 110, 32, 110, 111, 116, 32, 98, 101, 32, 100, 111, 110, 101, 32, 105, 110, 32, 116, 104, 105, 115, 32, 115, 116, 97, 116, 101])]))
def laid_millwright_api_ErrFail {H : Type} : DataW H := .iface "*errors.errorString" (.ptr (.agg [.lit (.string [97, 32, 114, 101, 99, 105, 112, 101, 32, 102, 97, 105, 108, 101, 100])]))
def laid_millwright_api_ErrFlag {H : Type} : DataW H := .iface "*errors.errorString" (.ptr (.agg [.lit (.string [105, 116, 32, 105, 115, 32, 110, 111, 32, 102, 108, 97, 103])]))
def laid_millwright_api_ErrKind {H : Type} : DataW H := .iface "*errors.errorString" (.ptr (.agg [.lit (.string [105, 116, 32, 105, 115, 32, 111, 102, 32, 97, 110, 111, 116, 104, 101, 114, 32, 107, 105, 110, 100])]))
def laid_millwright_api_ErrLost {H : Type} : DataW H := .iface "*errors.errorString" (.ptr (.agg [.lit (.string [110, 111, 98, 111, 100, 121, 32, 107, 110, 111, 119, 115, 32, 104, 111, 119, 32, 116, 111, 32, 109, 97, 107, 101, 32, 105, 116])]))
def laid_millwright_attr_letters {H : Type} : DataW H := .agg [.agg [.lit (.int .u8 68), .lit (.int .i64 1)], .agg [.lit (.int .u8 69), .lit (.int .i64 2)], .agg [.lit (.int .u8 78), .lit (.int .i64 4)], .agg [.lit (.int .u8 110), .lit (.int .i64 8)], .agg [.lit (.int .u8 81), .lit (.int .i64 16)], .agg [.lit (.int .u8 82), .lit (.int .i64 32)], .agg [.lit (.int .u8 85), .lit (.int .i64 64)], .agg [.lit (.int .u8 86), .lit (.int .i64 128)]]
/-- One of Go's own tables, pinned by name: the form's constant. -/
def laid_unicode_utf8_first : DataW Unit := Go.Pinned.utf8First

/-- 'millwrightlaw19.StmtTexts': WHATEVER THE INPUT: true; the input reads as it did. -/
def stmtTextsSpec : ChangeSpec := { name := "stmtTexts", fn := fun _ => fun
  | [d] => { results := [.lit (.bool true)], args := [d] }
  | _ => none }
def stmtTextsRow : OpenClaim := { program := "ytdganemgldocoaagreatdoor", sum := "e6e715b8fe40176a9a0429d1f1817df7c9889e49a85dbe0d6ad607251d525900", func := "millwright/millwrightlaw19.StmtTexts", spec := "stmtTexts", inPlace := ["internal/bytealg.CountString", "internal/bytealg.IndexByteString", "internal/bytealg.IndexString", "internal/abi.NoEscape", "internal/bytealg.MakeNoZero", "internal/reflectlite.ValueOf", "(internal/reflectlite.Value).Type", "(internal/reflectlite.Value).IsNil", "internal/reflectlite.TypeOf", "(internal/reflectlite.Value).Elem", "(internal/reflectlite.Value).Set"], unfollowed := true, recurses := true, named := ["millwright/api.ErrLong", "unicode/utf8.first", "unicode/utf8.acceptRanges", "internal/bytealg.MaxLen", "millwright/api.ErrQuote", "millwright/api.ErrForm", "millwright/api.ErrName", "millwright/api.ErrAttr", "millwright/attr.letters", "errors.errorType", "millwright/api.ErrRange", "millwright/api.ErrRegex", "millwright/api.ErrNone", "millwright/api.ErrDup", "millwright/api.ErrFull", "millwright/api.ErrDepth", "millwright/api.ErrCycle", "millwright/api.ErrAmbig", "millwright/api.ErrState", "millwright/api.ErrFail", "millwright/api.ErrFlag", "millwright/api.ErrKind", "millwright/api.ErrLost"], apart := false, laid := [("unicode/utf8.acceptRanges", laid_unicode_utf8_acceptRanges), ("errors.errorType", laid_errors_errorType), ("millwright/api.ErrRange", laid_millwright_api_ErrRange), ("millwright/api.ErrLong", laid_millwright_api_ErrLong), ("millwright/api.ErrForm", laid_millwright_api_ErrForm), ("millwright/api.ErrName", laid_millwright_api_ErrName), ("millwright/api.ErrQuote", laid_millwright_api_ErrQuote), ("millwright/api.ErrRegex", laid_millwright_api_ErrRegex), ("millwright/api.ErrAttr", laid_millwright_api_ErrAttr), ("millwright/api.ErrNone", laid_millwright_api_ErrNone), ("millwright/api.ErrDup", laid_millwright_api_ErrDup), ("millwright/api.ErrFull", laid_millwright_api_ErrFull), ("millwright/api.ErrDepth", laid_millwright_api_ErrDepth), ("millwright/api.ErrCycle", laid_millwright_api_ErrCycle), ("millwright/api.ErrAmbig", laid_millwright_api_ErrAmbig), ("millwright/api.ErrState", laid_millwright_api_ErrState), ("millwright/api.ErrFail", laid_millwright_api_ErrFail), ("millwright/api.ErrFlag", laid_millwright_api_ErrFlag), ("millwright/api.ErrKind", laid_millwright_api_ErrKind), ("millwright/api.ErrLost", laid_millwright_api_ErrLost), ("millwright/attr.letters", laid_millwright_attr_letters), ("unicode/utf8.first", laid_unicode_utf8_first)] }
def StmtTextsSaid : Prop := stmtTextsRow.holds Tryz.pinned (OpenSpec.ofChange stmtTextsSpec)

/-- ITS FALSE NEIGHBOUR: 'it returns false'. Refute it at one input. -/
def stmtTextsWrong : ChangeSpec := { name := "stmtTexts", fn := fun _ => fun
  | [d] => { results := [.lit (.bool false)], args := [d] }
  | _ => none }
def StmtTextsWrongFalsely : Prop := stmtTextsRow.holds Tryz.pinned (OpenSpec.ofChange stmtTextsWrong)

/-- 'millwrightlaw19.StmtLines': WHATEVER THE INPUT: true; the input reads as it did. -/
def stmtLinesSpec : ChangeSpec := { name := "stmtLines", fn := fun _ => fun
  | [d1, d2] => { results := [.lit (.bool true)], args := [d1, d2] }
  | _ => none }
def stmtLinesRow : OpenClaim := { program := "ytdganemgldocoaagreatdoor", sum := "e6e715b8fe40176a9a0429d1f1817df7c9889e49a85dbe0d6ad607251d525900", func := "millwright/millwrightlaw19.StmtLines", spec := "stmtLines", inPlace := ["internal/bytealg.CountString", "internal/bytealg.IndexByteString", "internal/bytealg.IndexString", "internal/abi.NoEscape", "internal/bytealg.MakeNoZero", "internal/reflectlite.ValueOf", "(internal/reflectlite.Value).Type", "(internal/reflectlite.Value).IsNil", "internal/reflectlite.TypeOf", "(internal/reflectlite.Value).Elem", "(internal/reflectlite.Value).Set"], unfollowed := true, recurses := true, named := ["millwright/api.ErrLong", "unicode/utf8.first", "unicode/utf8.acceptRanges", "internal/bytealg.MaxLen", "millwright/api.ErrQuote", "millwright/api.ErrForm", "millwright/api.ErrName", "millwright/api.ErrAttr", "millwright/attr.letters", "errors.errorType", "millwright/api.ErrRange", "millwright/api.ErrRegex", "millwright/api.ErrNone", "millwright/api.ErrDup", "millwright/api.ErrFull", "millwright/api.ErrDepth", "millwright/api.ErrCycle", "millwright/api.ErrAmbig", "millwright/api.ErrState", "millwright/api.ErrFail", "millwright/api.ErrFlag", "millwright/api.ErrKind", "millwright/api.ErrLost"], apart := false, laid := [("unicode/utf8.acceptRanges", laid_unicode_utf8_acceptRanges), ("errors.errorType", laid_errors_errorType), ("millwright/api.ErrRange", laid_millwright_api_ErrRange), ("millwright/api.ErrLong", laid_millwright_api_ErrLong), ("millwright/api.ErrForm", laid_millwright_api_ErrForm), ("millwright/api.ErrName", laid_millwright_api_ErrName), ("millwright/api.ErrQuote", laid_millwright_api_ErrQuote), ("millwright/api.ErrRegex", laid_millwright_api_ErrRegex), ("millwright/api.ErrAttr", laid_millwright_api_ErrAttr), ("millwright/api.ErrNone", laid_millwright_api_ErrNone), ("millwright/api.ErrDup", laid_millwright_api_ErrDup), ("millwright/api.ErrFull", laid_millwright_api_ErrFull), ("millwright/api.ErrDepth", laid_millwright_api_ErrDepth), ("millwright/api.ErrCycle", laid_millwright_api_ErrCycle), ("millwright/api.ErrAmbig", laid_millwright_api_ErrAmbig), ("millwright/api.ErrState", laid_millwright_api_ErrState), ("millwright/api.ErrFail", laid_millwright_api_ErrFail), ("millwright/api.ErrFlag", laid_millwright_api_ErrFlag), ("millwright/api.ErrKind", laid_millwright_api_ErrKind), ("millwright/api.ErrLost", laid_millwright_api_ErrLost), ("millwright/attr.letters", laid_millwright_attr_letters), ("unicode/utf8.first", laid_unicode_utf8_first)] }
def StmtLinesSaid : Prop := stmtLinesRow.holds Tryz.pinned (OpenSpec.ofChange stmtLinesSpec)

/-- ITS FALSE NEIGHBOUR: 'it returns false'. Refute it at one input. -/
def stmtLinesWrong : ChangeSpec := { name := "stmtLines", fn := fun _ => fun
  | [d1, d2] => { results := [.lit (.bool false)], args := [d1, d2] }
  | _ => none }
def StmtLinesWrongFalsely : Prop := stmtLinesRow.holds Tryz.pinned (OpenSpec.ofChange stmtLinesWrong)

/- THE SECOND FORM. 'bulk': how many values and letters a reading holds, each counted each time it is reached (what is shared counts as often as it is met; a slice's spare places count too). A statement '..UptoSaid' is the law's where the arguments, and the package variables that the reading takes, are together of bulk at most 1048576: NARROWER than '..Said'. Prove '..Said' where nothing that the law and all that it calls make is longer than what came in: it says more and counts as full. Else prove '..UptoSaid'. A law counts once. -/
mutual
def uptoBulk {H : Type} : DataW H → Nat
  | .lit (.string bytes) => bytes.length + 1
  | .lit _ => 1
  | .nil => 1
  | .ptr d => uptoBulk d + 1
  | .slice elems spare => uptoBulkAll elems + uptoBulkAll spare + 1
  | .agg parts => uptoBulkAll parts + 1
  | .iface _ d => uptoBulk d + 1
  | .map entries => uptoBulkEntries entries + 1
  | .held _ => 1
def uptoBulkAll {H : Type} : List (DataW H) → Nat
  | [] => 0
  | d :: r => uptoBulk d + uptoBulkAll r
def uptoBulkEntries {H : Type} : List (Lit × DataW H) → Nat
  | [] => 0
  | x :: r => uptoBulkEntry x + uptoBulkEntries r
def uptoBulkEntry {H : Type} : Lit × DataW H → Nat
  | (.string bytes, d) => bytes.length + uptoBulk d + 1
  | (_, d) => uptoBulk d + 1
 end
def uptoSmall : (H : Type) → List (DataW H) → Bool := fun _ ds => decide (uptoBulkAll ds ≤ 1048576)
def OpenSpec.upto (s : _root_.Go.ChangeSpec) : _root_.Go.OpenSpec := { _root_.Go.OpenSpec.ofChange s with cond := some uptoSmall }

/-- 'millwrightlaw19.StmtTexts', WHERE WHAT IT READS IS OF BULK AT MOST 1048576: true; the input reads as it did. -/
def stmtTextsUptoRow : OpenClaim := { program := "ytdganemgldocoaagreatdoor", sum := "e6e715b8fe40176a9a0429d1f1817df7c9889e49a85dbe0d6ad607251d525900", func := "millwright/millwrightlaw19.StmtTexts", spec := "stmtTexts", inPlace := ["internal/bytealg.CountString", "internal/bytealg.IndexByteString", "internal/bytealg.IndexString", "internal/abi.NoEscape", "internal/bytealg.MakeNoZero", "internal/reflectlite.ValueOf", "(internal/reflectlite.Value).Type", "(internal/reflectlite.Value).IsNil", "internal/reflectlite.TypeOf", "(internal/reflectlite.Value).Elem", "(internal/reflectlite.Value).Set"], unfollowed := true, recurses := true, named := ["millwright/api.ErrLong", "unicode/utf8.first", "unicode/utf8.acceptRanges", "internal/bytealg.MaxLen", "millwright/api.ErrQuote", "millwright/api.ErrForm", "millwright/api.ErrName", "millwright/api.ErrAttr", "millwright/attr.letters", "errors.errorType", "millwright/api.ErrRange", "millwright/api.ErrRegex", "millwright/api.ErrNone", "millwright/api.ErrDup", "millwright/api.ErrFull", "millwright/api.ErrDepth", "millwright/api.ErrCycle", "millwright/api.ErrAmbig", "millwright/api.ErrState", "millwright/api.ErrFail", "millwright/api.ErrFlag", "millwright/api.ErrKind", "millwright/api.ErrLost"], apart := false, laid := [("unicode/utf8.acceptRanges", laid_unicode_utf8_acceptRanges), ("errors.errorType", laid_errors_errorType), ("millwright/api.ErrRange", laid_millwright_api_ErrRange), ("millwright/api.ErrLong", laid_millwright_api_ErrLong), ("millwright/api.ErrForm", laid_millwright_api_ErrForm), ("millwright/api.ErrName", laid_millwright_api_ErrName), ("millwright/api.ErrQuote", laid_millwright_api_ErrQuote), ("millwright/api.ErrRegex", laid_millwright_api_ErrRegex), ("millwright/api.ErrAttr", laid_millwright_api_ErrAttr), ("millwright/api.ErrNone", laid_millwright_api_ErrNone), ("millwright/api.ErrDup", laid_millwright_api_ErrDup), ("millwright/api.ErrFull", laid_millwright_api_ErrFull), ("millwright/api.ErrDepth", laid_millwright_api_ErrDepth), ("millwright/api.ErrCycle", laid_millwright_api_ErrCycle), ("millwright/api.ErrAmbig", laid_millwright_api_ErrAmbig), ("millwright/api.ErrState", laid_millwright_api_ErrState), ("millwright/api.ErrFail", laid_millwright_api_ErrFail), ("millwright/api.ErrFlag", laid_millwright_api_ErrFlag), ("millwright/api.ErrKind", laid_millwright_api_ErrKind), ("millwright/api.ErrLost", laid_millwright_api_ErrLost), ("millwright/attr.letters", laid_millwright_attr_letters), ("unicode/utf8.first", laid_unicode_utf8_first)], narrowed := true }
def StmtTextsUptoSaid : Prop := stmtTextsUptoRow.holds Tryz.pinned (OpenSpec.upto stmtTextsSpec)

/-- 'millwrightlaw19.StmtLines', WHERE WHAT IT READS IS OF BULK AT MOST 1048576: true; the input reads as it did. -/
def stmtLinesUptoRow : OpenClaim := { program := "ytdganemgldocoaagreatdoor", sum := "e6e715b8fe40176a9a0429d1f1817df7c9889e49a85dbe0d6ad607251d525900", func := "millwright/millwrightlaw19.StmtLines", spec := "stmtLines", inPlace := ["internal/bytealg.CountString", "internal/bytealg.IndexByteString", "internal/bytealg.IndexString", "internal/abi.NoEscape", "internal/bytealg.MakeNoZero", "internal/reflectlite.ValueOf", "(internal/reflectlite.Value).Type", "(internal/reflectlite.Value).IsNil", "internal/reflectlite.TypeOf", "(internal/reflectlite.Value).Elem", "(internal/reflectlite.Value).Set"], unfollowed := true, recurses := true, named := ["millwright/api.ErrLong", "unicode/utf8.first", "unicode/utf8.acceptRanges", "internal/bytealg.MaxLen", "millwright/api.ErrQuote", "millwright/api.ErrForm", "millwright/api.ErrName", "millwright/api.ErrAttr", "millwright/attr.letters", "errors.errorType", "millwright/api.ErrRange", "millwright/api.ErrRegex", "millwright/api.ErrNone", "millwright/api.ErrDup", "millwright/api.ErrFull", "millwright/api.ErrDepth", "millwright/api.ErrCycle", "millwright/api.ErrAmbig", "millwright/api.ErrState", "millwright/api.ErrFail", "millwright/api.ErrFlag", "millwright/api.ErrKind", "millwright/api.ErrLost"], apart := false, laid := [("unicode/utf8.acceptRanges", laid_unicode_utf8_acceptRanges), ("errors.errorType", laid_errors_errorType), ("millwright/api.ErrRange", laid_millwright_api_ErrRange), ("millwright/api.ErrLong", laid_millwright_api_ErrLong), ("millwright/api.ErrForm", laid_millwright_api_ErrForm), ("millwright/api.ErrName", laid_millwright_api_ErrName), ("millwright/api.ErrQuote", laid_millwright_api_ErrQuote), ("millwright/api.ErrRegex", laid_millwright_api_ErrRegex), ("millwright/api.ErrAttr", laid_millwright_api_ErrAttr), ("millwright/api.ErrNone", laid_millwright_api_ErrNone), ("millwright/api.ErrDup", laid_millwright_api_ErrDup), ("millwright/api.ErrFull", laid_millwright_api_ErrFull), ("millwright/api.ErrDepth", laid_millwright_api_ErrDepth), ("millwright/api.ErrCycle", laid_millwright_api_ErrCycle), ("millwright/api.ErrAmbig", laid_millwright_api_ErrAmbig), ("millwright/api.ErrState", laid_millwright_api_ErrState), ("millwright/api.ErrFail", laid_millwright_api_ErrFail), ("millwright/api.ErrFlag", laid_millwright_api_ErrFlag), ("millwright/api.ErrKind", laid_millwright_api_ErrKind), ("millwright/api.ErrLost", laid_millwright_api_ErrLost), ("millwright/attr.letters", laid_millwright_attr_letters), ("unicode/utf8.first", laid_unicode_utf8_first)], narrowed := true }
def StmtLinesUptoSaid : Prop := stmtLinesUptoRow.holds Tryz.pinned (OpenSpec.upto stmtLinesSpec)

end Rows
end Go.Proofs.YtdganemgldocoaaGreatDoor
