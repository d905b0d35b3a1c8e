/-
  NARROWER THAN 'FOR EVERY INPUT', by the rows' own cells (each row's printed sentence says how): PikeMatches: laid · PikePart: laid.
  DERIVED. THE GIVEN ROWS OF THIS SEAT. 2 by the template 'for every input the law returns true; each argument reads behind the call as it read before'; 0 by the template 'total and deterministic' (their statements: YtgpmhnpacpgckaaDoorTotals.lean).
  GIVEN WITH THE SEED: the statements are not yours to turn. If you find one false, say at which input.
  Laid BY PROGRAM, IN A SANDBOX (cutbox-rows.mjs): the forced cells as the released guide's own fill.sh prints them over the translation 89b2c9f8753bdd31… (all of the seat's roots in one cut). By AI agents, Wed Nov 11 2026. No macro, syntax, notation, axiom, sorry.
-/
import Derived.Test.YtgpmhnpacpgckaaDoorChecked
import GoSem.Claim
import GoSem.ClaimJoined
import GoSem.ClaimMapViews
import Derived.JoinedTies
import Derived.KernelRfl
namespace Go.Proofs.YtgpmhnpacpgckaaDoor
/- THE CELL 'sum', in the pinned program and in every row, IS THE sha256 OF THE DUMP (.gsa) THAT YtgpmhnpacpgckaaDoorProg.lean LOADS. Nothing in Lean hashes anything: it is a label: what it is worth is what the hold of that sum in a sandbox is worth. -/
noncomputable def Tryd.pinned : Pinned := { name := "ytgpmhnpacpgckaadoor", sum := "89b2c9f8753bdd31d0e799ff6369dd5ab9cc396d2ac9212ed475c892d92d6673", checked := Tryd.checked }
namespace Rows
def none {H : Type} : Left H := { results := [], args := [] }

/- WHAT THE LISTED PACKAGE-LEVEL VARIABLES READ AS WHEN THE CALL BEGINS. Each datum BY PROGRAM (the guide's laid-datum.mjs) off the statement by which the dump's own 'gosem.cut.vars' lays the variable. In a bare row this is a premise. The card (YtgpmhnpacpgckaaDoorCards.lean) ties it to the program's text. -/
def laid_millwright_api_ErrLong {H : Type} : DataW H := .iface "*errors.errorString" (.ptr (.agg [.lit (.string [116, 104, 101, 114, 101, 32, 105, 115, 32, 109, 111, 114, 101, 32, 116, 104, 97, 110, 32, 109, 97, 121, 32, 98, 101])]))
def laid_millwright_api_ErrRegex {H : Type} : DataW H := .iface "*errors.errorString" (.ptr (.agg [.lit (.string [105, 116, 32, 105, 115, 32, 110, 111, 32, 114, 101, 103, 117, 108, 97, 114, 32, 101, 120, 112, 114, 101, 115, 115, 105, 111, 110])]))
def laid_millwright_api_ErrFull {H : Type} : DataW H := .iface "*errors.errorString" (.ptr (.agg [.lit (.string [116, 104, 101, 114, 101, 32, 105, 115, 32, 110, 111, 32, 109, 111, 114, 101, 32, 114, 111, 111, 109])]))
def laid_millwright_api_ErrKind {H : Type} : DataW H := .iface "*errors.errorString" (.ptr (.agg [.lit (.string [105, 116, 32, 105, 115, 32, 111, 102, 32, 97, 110, 111, 116, 104, 101, 114, 32, 107, 105, 110, 100])]))
def laid_millwright_rex_repeats {H : Type} : DataW H := .agg [.agg [.lit (.int .u8 42), .lit (.int .i64 4)], .agg [.lit (.int .u8 43), .lit (.int .i64 5)], .agg [.lit (.int .u8 63), .lit (.int .i64 6)]]

/-- 'millwrightlaw09.PikeMatches': WHATEVER THE INPUT: true; the input reads as it did. -/
def pikeMatchesSpec : ChangeSpec := { name := "pikeMatches", fn := fun _ => fun
  | [d1, d2] => { results := [.lit (.bool true)], args := [d1, d2] }
  | _ => none }
def pikeMatchesRow : OpenClaim := { program := "ytgpmhnpacpgckaadoor", sum := "89b2c9f8753bdd31d0e799ff6369dd5ab9cc396d2ac9212ed475c892d92d6673", func := "millwright/millwrightlaw09.PikeMatches", spec := "pikeMatches", inPlace := ["internal/bytealg.IndexByteString"], unfollowed := true, recurses := true, named := ["millwright/api.ErrLong", "millwright/api.ErrRegex", "millwright/api.ErrFull", "millwright/rex.repeats", "millwright/api.ErrKind"], apart := false, laid := [("millwright/api.ErrLong", laid_millwright_api_ErrLong), ("millwright/api.ErrRegex", laid_millwright_api_ErrRegex), ("millwright/api.ErrFull", laid_millwright_api_ErrFull), ("millwright/api.ErrKind", laid_millwright_api_ErrKind), ("millwright/rex.repeats", laid_millwright_rex_repeats)] }
def PikeMatchesSaid : Prop := pikeMatchesRow.holds Tryd.pinned (OpenSpec.ofChange pikeMatchesSpec)

/-- ITS FALSE NEIGHBOUR: 'it returns false'. Refute it at one input. -/
def pikeMatchesWrong : ChangeSpec := { name := "pikeMatches", fn := fun _ => fun
  | [d1, d2] => { results := [.lit (.bool false)], args := [d1, d2] }
  | _ => none }
def PikeMatchesWrongFalsely : Prop := pikeMatchesRow.holds Tryd.pinned (OpenSpec.ofChange pikeMatchesWrong)

/-- 'millwrightlaw09.PikePart': WHATEVER THE INPUT: true; the input reads as it did. -/
def pikePartSpec : ChangeSpec := { name := "pikePart", fn := fun _ => fun
  | [d1, d2, d3] => { results := [.lit (.bool true)], args := [d1, d2, d3] }
  | _ => none }
def pikePartRow : OpenClaim := { program := "ytgpmhnpacpgckaadoor", sum := "89b2c9f8753bdd31d0e799ff6369dd5ab9cc396d2ac9212ed475c892d92d6673", func := "millwright/millwrightlaw09.PikePart", spec := "pikePart", inPlace := ["internal/bytealg.IndexByteString"], unfollowed := true, recurses := true, named := ["millwright/api.ErrLong", "millwright/api.ErrRegex", "millwright/api.ErrFull", "millwright/rex.repeats", "millwright/api.ErrKind"], apart := false, laid := [("millwright/api.ErrLong", laid_millwright_api_ErrLong), ("millwright/api.ErrRegex", laid_millwright_api_ErrRegex), ("millwright/api.ErrFull", laid_millwright_api_ErrFull), ("millwright/api.ErrKind", laid_millwright_api_ErrKind), ("millwright/rex.repeats", laid_millwright_rex_repeats)] }
def PikePartSaid : Prop := pikePartRow.holds Tryd.pinned (OpenSpec.ofChange pikePartSpec)

/-- ITS FALSE NEIGHBOUR: 'it returns false'. Refute it at one input. -/
def pikePartWrong : ChangeSpec := { name := "pikePart", fn := fun _ => fun
  | [d1, d2, d3] => { results := [.lit (.bool false)], args := [d1, d2, d3] }
  | _ => none }
def PikePartWrongFalsely : Prop := pikePartRow.holds Tryd.pinned (OpenSpec.ofChange pikePartWrong)

/- THE SECOND FORM. 'bulk': how many values and letters a reading holds, each counted each time it is reached (what is shared counts as often as it is met; a slice's spare places count too). A statement '..UptoSaid' is the law's where the arguments, and the package variables that the reading takes, are together of bulk at most 1048576: NARROWER than '..Said'. Prove '..Said' where nothing that the law and all that it calls make is longer than what came in: it says more and counts as full. Else prove '..UptoSaid'. A law counts once. -/
mutual
def uptoBulk {H : Type} : DataW H → Nat
  | .lit (.string bytes) => bytes.length + 1
  | .lit _ => 1
  | .nil => 1
  | .ptr d => uptoBulk d + 1
  | .slice elems spare => uptoBulkAll elems + uptoBulkAll spare + 1
  | .agg parts => uptoBulkAll parts + 1
  | .iface _ d => uptoBulk d + 1
  | .map entries => uptoBulkEntries entries + 1
  | .held _ => 1
def uptoBulkAll {H : Type} : List (DataW H) → Nat
  | [] => 0
  | d :: r => uptoBulk d + uptoBulkAll r
def uptoBulkEntries {H : Type} : List (Lit × DataW H) → Nat
  | [] => 0
  | x :: r => uptoBulkEntry x + uptoBulkEntries r
def uptoBulkEntry {H : Type} : Lit × DataW H → Nat
  | (.string bytes, d) => bytes.length + uptoBulk d + 1
  | (_, d) => uptoBulk d + 1
 end
def uptoSmall : (H : Type) → List (DataW H) → Bool := fun _ ds => decide (uptoBulkAll ds ≤ 1048576)
def OpenSpec.upto (s : _root_.Go.ChangeSpec) : _root_.Go.OpenSpec := { _root_.Go.OpenSpec.ofChange s with cond := some uptoSmall }

/-- 'millwrightlaw09.PikeMatches', WHERE WHAT IT READS IS OF BULK AT MOST 1048576: true; the input reads as it did. -/
def pikeMatchesUptoRow : OpenClaim := { program := "ytgpmhnpacpgckaadoor", sum := "89b2c9f8753bdd31d0e799ff6369dd5ab9cc396d2ac9212ed475c892d92d6673", func := "millwright/millwrightlaw09.PikeMatches", spec := "pikeMatches", inPlace := ["internal/bytealg.IndexByteString"], unfollowed := true, recurses := true, named := ["millwright/api.ErrLong", "millwright/api.ErrRegex", "millwright/api.ErrFull", "millwright/rex.repeats", "millwright/api.ErrKind"], apart := false, laid := [("millwright/api.ErrLong", laid_millwright_api_ErrLong), ("millwright/api.ErrRegex", laid_millwright_api_ErrRegex), ("millwright/api.ErrFull", laid_millwright_api_ErrFull), ("millwright/api.ErrKind", laid_millwright_api_ErrKind), ("millwright/rex.repeats", laid_millwright_rex_repeats)], narrowed := true }
def PikeMatchesUptoSaid : Prop := pikeMatchesUptoRow.holds Tryd.pinned (OpenSpec.upto pikeMatchesSpec)

/-- 'millwrightlaw09.PikePart', WHERE WHAT IT READS IS OF BULK AT MOST 1048576: true; the input reads as it did. -/
def pikePartUptoRow : OpenClaim := { program := "ytgpmhnpacpgckaadoor", sum := "89b2c9f8753bdd31d0e799ff6369dd5ab9cc396d2ac9212ed475c892d92d6673", func := "millwright/millwrightlaw09.PikePart", spec := "pikePart", inPlace := ["internal/bytealg.IndexByteString"], unfollowed := true, recurses := true, named := ["millwright/api.ErrLong", "millwright/api.ErrRegex", "millwright/api.ErrFull", "millwright/rex.repeats", "millwright/api.ErrKind"], apart := false, laid := [("millwright/api.ErrLong", laid_millwright_api_ErrLong), ("millwright/api.ErrRegex", laid_millwright_api_ErrRegex), ("millwright/api.ErrFull", laid_millwright_api_ErrFull), ("millwright/api.ErrKind", laid_millwright_api_ErrKind), ("millwright/rex.repeats", laid_millwright_rex_repeats)], narrowed := true }
def PikePartUptoSaid : Prop := pikePartUptoRow.holds Tryd.pinned (OpenSpec.upto pikePartSpec)

end Rows
end Go.Proofs.YtgpmhnpacpgckaaDoor
