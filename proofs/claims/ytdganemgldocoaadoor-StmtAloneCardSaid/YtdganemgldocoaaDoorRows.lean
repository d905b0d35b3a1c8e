/-
  NARROWER THAN 'FOR EVERY INPUT', by the rows' own cells (each row's printed sentence says how): StmtAlone: laid.
  DERIVED. THE GIVEN ROWS OF THIS SEAT. 1 by the template 'for every input the law returns true; each argument reads behind the call as it read before'; 0 by the template 'total and deterministic' (their statements: YtdganemgldocoaaDoorTotals.lean).
  GIVEN WITH THE SEED: the statements are not yours to turn. If you find one false, say at which input.
  Laid BY PROGRAM, IN A SANDBOX (cutbox-rows.mjs): the forced cells as the released guide's own fill.sh prints them over the translation 2925963a3c194e25… (all of the seat's roots in one cut). By AI agents, Wed Nov 11 2026. No macro, syntax, notation, axiom, sorry.
-/
import Derived.Test.YtdganemgldocoaaDoorChecked
import GoSem.PinnedTables
import GoSem.Claim
import GoSem.ClaimJoined
import GoSem.ClaimMapViews
import Derived.JoinedTies
import Derived.KernelRfl
namespace Go.Proofs.YtdganemgldocoaaDoor
/- THE CELL 'sum', in the pinned program and in every row, IS THE sha256 OF THE DUMP (.gsa) THAT YtdganemgldocoaaDoorProg.lean LOADS. Nothing in Lean hashes anything: it is a label: what it is worth is what the hold of that sum in a sandbox is worth. -/
noncomputable def Tryd.pinned : Pinned := { name := "ytdganemgldocoaadoor", sum := "2925963a3c194e25d3655c8faf6c20be9e641c1cb7c70b49ef585c419118ad07", checked := Tryd.checked }
namespace Rows
def none {H : Type} : Left H := { results := [], args := [] }

/- WHAT THE LISTED PACKAGE-LEVEL VARIABLES READ AS WHEN THE CALL BEGINS. Each datum BY PROGRAM (the guide's laid-datum.mjs) off the statement by which the dump's own 'gosem.cut.vars' lays the variable. In a bare row this is a premise. The card (YtdganemgldocoaaDoorCards.lean) ties it to the program's text. -/
def laid_unicode_utf8_acceptRanges {H : Type} : DataW H := .agg [.agg [.lit (.int .u8 128), .lit (.int .u8 191)], .agg [.lit (.int .u8 160), .lit (.int .u8 191)], .agg [.lit (.int .u8 128), .lit (.int .u8 159)], .agg [.lit (.int .u8 144), .lit (.int .u8 191)], .agg [.lit (.int .u8 128), .lit (.int .u8 143)], .agg [.lit (.int .u8 0), .lit (.int .u8 0)], .agg [.lit (.int .u8 0), .lit (.int .u8 0)], .agg [.lit (.int .u8 0), .lit (.int .u8 0)], .agg [.lit (.int .u8 0), .lit (.int .u8 0)], .agg [.lit (.int .u8 0), .lit (.int .u8 0)], .agg [.lit (.int .u8 0), .lit (.int .u8 0)], .agg [.lit (.int .u8 0), .lit (.int .u8 0)], .agg [.lit (.int .u8 0), .lit (.int .u8 0)], .agg [.lit (.int .u8 0), .lit (.int .u8 0)], .agg [.lit (.int .u8 0), .lit (.int .u8 0)], .agg [.lit (.int .u8 0), .lit (.int .u8 0)]]
def laid_millwright_api_ErrLong {H : Type} : DataW H := .iface "*errors.errorString" (.ptr (.agg [.lit (.string [116, 104, 101, 114, 101, 32, 105, 115, 32, 109, 111, 114, 101, 32, 116, 104, 97, 110, 32, 109, 97, 121, 32, 98, 101])]))
def laid_millwright_api_ErrForm {H : Type} : DataW H := .iface "*errors.errorString" (.ptr (.agg [.lit (.string [105, 116, 32, 105, 115, 32, 110, 111, 116, 32, 111, 102, 32, 105, 116, 115, 32, 102, 111, 114, 109])]))
def laid_millwright_api_ErrName {H : Type} : DataW H := .iface "*errors.errorString" (.ptr (.agg [.lit (.string [105, 116, 32, 105, 115, 32, 110, 111, 32, 114, 105, 103, 104, 116, 32, 110, 97, 109, 101])]))
def laid_millwright_api_ErrQuote {H : Type} : DataW H := .iface "*errors.errorString" (.ptr (.agg [.lit (.string [97, 32, 113, 117, 111, 116, 101, 32, 104, 97, 115, 32, 110, 111, 32, 101, 110, 100])]))
def laid_millwright_api_ErrAttr {H : Type} : DataW H := .iface "*errors.errorString" (.ptr (.agg [.lit (.string [105, 116, 32, 105, 115, 32, 110, 111, 32, 97, 116, 116, 114, 105, 98, 117, 116, 101])]))
def laid_millwright_attr_letters {H : Type} : DataW H := .agg [.agg [.lit (.int .u8 68), .lit (.int .i64 1)], .agg [.lit (.int .u8 69), .lit (.int .i64 2)], .agg [.lit (.int .u8 78), .lit (.int .i64 4)], .agg [.lit (.int .u8 110), .lit (.int .i64 8)], .agg [.lit (.int .u8 81), .lit (.int .i64 16)], .agg [.lit (.int .u8 82), .lit (.int .i64 32)], .agg [.lit (.int .u8 85), .lit (.int .i64 64)], .agg [.lit (.int .u8 86), .lit (.int .i64 128)]]
/-- One of Go's own tables, pinned by name: the form's constant. -/
def laid_unicode_utf8_first : DataW Unit := Go.Pinned.utf8First

/-- 'millwrightlaw19.StmtAlone': WHATEVER THE INPUT: true; the input reads as it did. -/
def stmtAloneSpec : ChangeSpec := { name := "stmtAlone", fn := fun _ => fun
  | [d1, d2] => { results := [.lit (.bool true)], args := [d1, d2] }
  | _ => none }
def stmtAloneRow : OpenClaim := { program := "ytdganemgldocoaadoor", sum := "2925963a3c194e25d3655c8faf6c20be9e641c1cb7c70b49ef585c419118ad07", func := "millwright/millwrightlaw19.StmtAlone", spec := "stmtAlone", inPlace := ["internal/bytealg.CountString", "internal/bytealg.IndexByteString", "internal/bytealg.IndexString", "internal/abi.NoEscape", "internal/bytealg.MakeNoZero"], unfollowed := true, recurses := true, named := ["millwright/api.ErrLong", "unicode/utf8.first", "unicode/utf8.acceptRanges", "internal/bytealg.MaxLen", "millwright/api.ErrQuote", "millwright/api.ErrForm", "millwright/api.ErrName", "millwright/api.ErrAttr", "millwright/attr.letters"], apart := false, laid := [("unicode/utf8.acceptRanges", laid_unicode_utf8_acceptRanges), ("millwright/api.ErrLong", laid_millwright_api_ErrLong), ("millwright/api.ErrForm", laid_millwright_api_ErrForm), ("millwright/api.ErrName", laid_millwright_api_ErrName), ("millwright/api.ErrQuote", laid_millwright_api_ErrQuote), ("millwright/api.ErrAttr", laid_millwright_api_ErrAttr), ("millwright/attr.letters", laid_millwright_attr_letters), ("unicode/utf8.first", laid_unicode_utf8_first)] }
def StmtAloneSaid : Prop := stmtAloneRow.holds Tryd.pinned (OpenSpec.ofChange stmtAloneSpec)

/-- ITS FALSE NEIGHBOUR: 'it returns false'. Refute it at one input. -/
def stmtAloneWrong : ChangeSpec := { name := "stmtAlone", fn := fun _ => fun
  | [d1, d2] => { results := [.lit (.bool false)], args := [d1, d2] }
  | _ => none }
def StmtAloneWrongFalsely : Prop := stmtAloneRow.holds Tryd.pinned (OpenSpec.ofChange stmtAloneWrong)

/- THE SECOND FORM. 'bulk': how many values and letters a reading holds, each counted each time it is reached (what is shared counts as often as it is met; a slice's spare places count too). A statement '..UptoSaid' is the law's where the arguments, and the package variables that the reading takes, are together of bulk at most 1048576: NARROWER than '..Said'. Prove '..Said' where nothing that the law and all that it calls make is longer than what came in: it says more and counts as full. Else prove '..UptoSaid'. A law counts once. -/
mutual
def uptoBulk {H : Type} : DataW H → Nat
  | .lit (.string bytes) => bytes.length + 1
  | .lit _ => 1
  | .nil => 1
  | .ptr d => uptoBulk d + 1
  | .slice elems spare => uptoBulkAll elems + uptoBulkAll spare + 1
  | .agg parts => uptoBulkAll parts + 1
  | .iface _ d => uptoBulk d + 1
  | .map entries => uptoBulkEntries entries + 1
  | .held _ => 1
def uptoBulkAll {H : Type} : List (DataW H) → Nat
  | [] => 0
  | d :: r => uptoBulk d + uptoBulkAll r
def uptoBulkEntries {H : Type} : List (Lit × DataW H) → Nat
  | [] => 0
  | x :: r => uptoBulkEntry x + uptoBulkEntries r
def uptoBulkEntry {H : Type} : Lit × DataW H → Nat
  | (.string bytes, d) => bytes.length + uptoBulk d + 1
  | (_, d) => uptoBulk d + 1
 end
def uptoSmall : (H : Type) → List (DataW H) → Bool := fun _ ds => decide (uptoBulkAll ds ≤ 1048576)
def OpenSpec.upto (s : _root_.Go.ChangeSpec) : _root_.Go.OpenSpec := { _root_.Go.OpenSpec.ofChange s with cond := some uptoSmall }

/-- 'millwrightlaw19.StmtAlone', WHERE WHAT IT READS IS OF BULK AT MOST 1048576: true; the input reads as it did. -/
def stmtAloneUptoRow : OpenClaim := { program := "ytdganemgldocoaadoor", sum := "2925963a3c194e25d3655c8faf6c20be9e641c1cb7c70b49ef585c419118ad07", func := "millwright/millwrightlaw19.StmtAlone", spec := "stmtAlone", inPlace := ["internal/bytealg.CountString", "internal/bytealg.IndexByteString", "internal/bytealg.IndexString", "internal/abi.NoEscape", "internal/bytealg.MakeNoZero"], unfollowed := true, recurses := true, named := ["millwright/api.ErrLong", "unicode/utf8.first", "unicode/utf8.acceptRanges", "internal/bytealg.MaxLen", "millwright/api.ErrQuote", "millwright/api.ErrForm", "millwright/api.ErrName", "millwright/api.ErrAttr", "millwright/attr.letters"], apart := false, laid := [("unicode/utf8.acceptRanges", laid_unicode_utf8_acceptRanges), ("millwright/api.ErrLong", laid_millwright_api_ErrLong), ("millwright/api.ErrForm", laid_millwright_api_ErrForm), ("millwright/api.ErrName", laid_millwright_api_ErrName), ("millwright/api.ErrQuote", laid_millwright_api_ErrQuote), ("millwright/api.ErrAttr", laid_millwright_api_ErrAttr), ("millwright/attr.letters", laid_millwright_attr_letters), ("unicode/utf8.first", laid_unicode_utf8_first)], narrowed := true }
def StmtAloneUptoSaid : Prop := stmtAloneUptoRow.holds Tryd.pinned (OpenSpec.upto stmtAloneSpec)

end Rows
end Go.Proofs.YtdganemgldocoaaDoor
