/-
  NARROWER THAN 'FOR EVERY INPUT', by the rows' own cells (each row's printed sentence says how): DenoteEnds: loops, laid · DenoteKleene: loops, laid · DenoteFirst: loops, laid.
  DERIVED. THE GIVEN ROWS OF THIS SEAT. 3 by the template 'for every input the law returns true; each argument reads behind the call as it read before'; 0 by the template 'total and deterministic' (their statements: YtlkjejmmoalliaaDoorTotals.lean).
  GIVEN WITH THE SEED: the statements are not yours to turn. If you find one false, say at which input.
  Laid BY PROGRAM, IN A SANDBOX (cutbox-rows.mjs): the forced cells as the released guide's own fill.sh prints them over the translation 0e544741f0f56eba… (all of the seat's roots in one cut). By AI agents, Wed Nov 11 2026. No macro, syntax, notation, axiom, sorry.
-/
import Derived.Test.YtlkjejmmoalliaaDoorChecked
import GoSem.Claim
import GoSem.ClaimJoined
import GoSem.ClaimMapViews
import Derived.JoinedTies
import Derived.KernelRfl
namespace Go.Proofs.YtlkjejmmoalliaaDoor
/- THE CELL 'sum', in the pinned program and in every row, IS THE sha256 OF THE DUMP (.gsa) THAT YtlkjejmmoalliaaDoorProg.lean LOADS. Nothing in Lean hashes anything: it is a label: what it is worth is what the hold of that sum in a sandbox is worth. -/
noncomputable def Tryd.pinned : Pinned := { name := "ytlkjejmmoalliaadoor", sum := "0e544741f0f56eba80ccb2d24becd7fb73659c7de5210bbb2552f2eb0ce171c9", checked := Tryd.checked }
namespace Rows
def none {H : Type} : Left H := { results := [], args := [] }

/- WHAT THE LISTED PACKAGE-LEVEL VARIABLES READ AS WHEN THE CALL BEGINS. Each datum BY PROGRAM (the guide's laid-datum.mjs) off the statement by which the dump's own 'gosem.cut.vars' lays the variable. In a bare row this is a premise. The card (YtlkjejmmoalliaaDoorCards.lean) ties it to the program's text. -/
def laid_millwright_api_ErrLong {H : Type} : DataW H := .iface "*errors.errorString" (.ptr (.agg [.lit (.string [116, 104, 101, 114, 101, 32, 105, 115, 32, 109, 111, 114, 101, 32, 116, 104, 97, 110, 32, 109, 97, 121, 32, 98, 101])]))
def laid_millwright_api_ErrRegex {H : Type} : DataW H := .iface "*errors.errorString" (.ptr (.agg [.lit (.string [105, 116, 32, 105, 115, 32, 110, 111, 32, 114, 101, 103, 117, 108, 97, 114, 32, 101, 120, 112, 114, 101, 115, 115, 105, 111, 110])]))
def laid_millwright_api_ErrFull {H : Type} : DataW H := .iface "*errors.errorString" (.ptr (.agg [.lit (.string [116, 104, 101, 114, 101, 32, 105, 115, 32, 110, 111, 32, 109, 111, 114, 101, 32, 114, 111, 111, 109])]))
def laid_millwright_rex_repeats {H : Type} : DataW H := .agg [.agg [.lit (.int .u8 42), .lit (.int .i64 4)], .agg [.lit (.int .u8 43), .lit (.int .i64 5)], .agg [.lit (.int .u8 63), .lit (.int .i64 6)]]

/-- 'millwrightlaw10.DenoteEnds': WHATEVER THE INPUT: true; the input reads as it did. -/
def denoteEndsSpec : ChangeSpec := { name := "denoteEnds", fn := fun _ => fun
  | [d1, d2, d3] => { results := [.lit (.bool true)], args := [d1, d2, d3] }
  | _ => none }
def denoteEndsRow : OpenClaim := { program := "ytlkjejmmoalliaadoor", sum := "0e544741f0f56eba80ccb2d24becd7fb73659c7de5210bbb2552f2eb0ce171c9", func := "millwright/millwrightlaw10.DenoteEnds", spec := "denoteEnds", inPlace := ["internal/bytealg.IndexByteString"], unfollowed := true, recurses := true, named := ["millwright/api.ErrLong", "millwright/api.ErrRegex", "millwright/api.ErrFull", "millwright/rex.repeats"], loops := true, apart := false, laid := [("millwright/api.ErrLong", laid_millwright_api_ErrLong), ("millwright/api.ErrRegex", laid_millwright_api_ErrRegex), ("millwright/api.ErrFull", laid_millwright_api_ErrFull), ("millwright/rex.repeats", laid_millwright_rex_repeats)] }
def DenoteEndsSaid : Prop := denoteEndsRow.holds Tryd.pinned (OpenSpec.ofChange denoteEndsSpec)

/-- ITS FALSE NEIGHBOUR: 'it returns false'. Refute it at one input. -/
def denoteEndsWrong : ChangeSpec := { name := "denoteEnds", fn := fun _ => fun
  | [d1, d2, d3] => { results := [.lit (.bool false)], args := [d1, d2, d3] }
  | _ => none }
def DenoteEndsWrongFalsely : Prop := denoteEndsRow.holds Tryd.pinned (OpenSpec.ofChange denoteEndsWrong)

/-- 'millwrightlaw10.DenoteKleene': WHATEVER THE INPUT: true; the input reads as it did. -/
def denoteKleeneSpec : ChangeSpec := { name := "denoteKleene", fn := fun _ => fun
  | [d1, d2, d3] => { results := [.lit (.bool true)], args := [d1, d2, d3] }
  | _ => none }
def denoteKleeneRow : OpenClaim := { program := "ytlkjejmmoalliaadoor", sum := "0e544741f0f56eba80ccb2d24becd7fb73659c7de5210bbb2552f2eb0ce171c9", func := "millwright/millwrightlaw10.DenoteKleene", spec := "denoteKleene", inPlace := ["internal/bytealg.IndexByteString"], unfollowed := true, recurses := true, named := ["millwright/api.ErrLong", "millwright/api.ErrRegex", "millwright/api.ErrFull", "millwright/rex.repeats"], loops := true, apart := false, laid := [("millwright/api.ErrLong", laid_millwright_api_ErrLong), ("millwright/api.ErrRegex", laid_millwright_api_ErrRegex), ("millwright/api.ErrFull", laid_millwright_api_ErrFull), ("millwright/rex.repeats", laid_millwright_rex_repeats)] }
def DenoteKleeneSaid : Prop := denoteKleeneRow.holds Tryd.pinned (OpenSpec.ofChange denoteKleeneSpec)

/-- ITS FALSE NEIGHBOUR: 'it returns false'. Refute it at one input. -/
def denoteKleeneWrong : ChangeSpec := { name := "denoteKleene", fn := fun _ => fun
  | [d1, d2, d3] => { results := [.lit (.bool false)], args := [d1, d2, d3] }
  | _ => none }
def DenoteKleeneWrongFalsely : Prop := denoteKleeneRow.holds Tryd.pinned (OpenSpec.ofChange denoteKleeneWrong)

/-- 'millwrightlaw10.DenoteFirst': WHATEVER THE INPUT: true; the input reads as it did. -/
def denoteFirstSpec : ChangeSpec := { name := "denoteFirst", fn := fun _ => fun
  | [d1, d2] => { results := [.lit (.bool true)], args := [d1, d2] }
  | _ => none }
def denoteFirstRow : OpenClaim := { program := "ytlkjejmmoalliaadoor", sum := "0e544741f0f56eba80ccb2d24becd7fb73659c7de5210bbb2552f2eb0ce171c9", func := "millwright/millwrightlaw10.DenoteFirst", spec := "denoteFirst", inPlace := ["internal/bytealg.IndexByteString"], unfollowed := true, recurses := true, named := ["millwright/api.ErrLong", "millwright/api.ErrRegex", "millwright/api.ErrFull", "millwright/rex.repeats"], loops := true, apart := false, laid := [("millwright/api.ErrLong", laid_millwright_api_ErrLong), ("millwright/api.ErrRegex", laid_millwright_api_ErrRegex), ("millwright/api.ErrFull", laid_millwright_api_ErrFull), ("millwright/rex.repeats", laid_millwright_rex_repeats)] }
def DenoteFirstSaid : Prop := denoteFirstRow.holds Tryd.pinned (OpenSpec.ofChange denoteFirstSpec)

/-- ITS FALSE NEIGHBOUR: 'it returns false'. Refute it at one input. -/
def denoteFirstWrong : ChangeSpec := { name := "denoteFirst", fn := fun _ => fun
  | [d1, d2] => { results := [.lit (.bool false)], args := [d1, d2] }
  | _ => none }
def DenoteFirstWrongFalsely : Prop := denoteFirstRow.holds Tryd.pinned (OpenSpec.ofChange denoteFirstWrong)

/- THE SECOND FORM. 'bulk': how many values and letters a reading holds, each counted each time it is reached (what is shared counts as often as it is met; a slice's spare places count too). A statement '..UptoSaid' is the law's where the arguments, and the package variables that the reading takes, are together of bulk at most 1048576: NARROWER than '..Said'. Prove '..Said' where nothing that the law and all that it calls make is longer than what came in: it says more and counts as full. Else prove '..UptoSaid'. A law counts once. -/
mutual
def uptoBulk {H : Type} : DataW H → Nat
  | .lit (.string bytes) => bytes.length + 1
  | .lit _ => 1
  | .nil => 1
  | .ptr d => uptoBulk d + 1
  | .slice elems spare => uptoBulkAll elems + uptoBulkAll spare + 1
  | .agg parts => uptoBulkAll parts + 1
  | .iface _ d => uptoBulk d + 1
  | .map entries => uptoBulkEntries entries + 1
  | .held _ => 1
def uptoBulkAll {H : Type} : List (DataW H) → Nat
  | [] => 0
  | d :: r => uptoBulk d + uptoBulkAll r
def uptoBulkEntries {H : Type} : List (Lit × DataW H) → Nat
  | [] => 0
  | x :: r => uptoBulkEntry x + uptoBulkEntries r
def uptoBulkEntry {H : Type} : Lit × DataW H → Nat
  | (.string bytes, d) => bytes.length + uptoBulk d + 1
  | (_, d) => uptoBulk d + 1
 end
def uptoSmall : (H : Type) → List (DataW H) → Bool := fun _ ds => decide (uptoBulkAll ds ≤ 1048576)
def OpenSpec.upto (s : _root_.Go.ChangeSpec) : _root_.Go.OpenSpec := { _root_.Go.OpenSpec.ofChange s with cond := some uptoSmall }

/-- 'millwrightlaw10.DenoteEnds', WHERE WHAT IT READS IS OF BULK AT MOST 1048576: true; the input reads as it did. -/
def denoteEndsUptoRow : OpenClaim := { program := "ytlkjejmmoalliaadoor", sum := "0e544741f0f56eba80ccb2d24becd7fb73659c7de5210bbb2552f2eb0ce171c9", func := "millwright/millwrightlaw10.DenoteEnds", spec := "denoteEnds", inPlace := ["internal/bytealg.IndexByteString"], unfollowed := true, recurses := true, named := ["millwright/api.ErrLong", "millwright/api.ErrRegex", "millwright/api.ErrFull", "millwright/rex.repeats"], loops := true, apart := false, laid := [("millwright/api.ErrLong", laid_millwright_api_ErrLong), ("millwright/api.ErrRegex", laid_millwright_api_ErrRegex), ("millwright/api.ErrFull", laid_millwright_api_ErrFull), ("millwright/rex.repeats", laid_millwright_rex_repeats)], narrowed := true }
def DenoteEndsUptoSaid : Prop := denoteEndsUptoRow.holds Tryd.pinned (OpenSpec.upto denoteEndsSpec)

/-- 'millwrightlaw10.DenoteKleene', WHERE WHAT IT READS IS OF BULK AT MOST 1048576: true; the input reads as it did. -/
def denoteKleeneUptoRow : OpenClaim := { program := "ytlkjejmmoalliaadoor", sum := "0e544741f0f56eba80ccb2d24becd7fb73659c7de5210bbb2552f2eb0ce171c9", func := "millwright/millwrightlaw10.DenoteKleene", spec := "denoteKleene", inPlace := ["internal/bytealg.IndexByteString"], unfollowed := true, recurses := true, named := ["millwright/api.ErrLong", "millwright/api.ErrRegex", "millwright/api.ErrFull", "millwright/rex.repeats"], loops := true, apart := false, laid := [("millwright/api.ErrLong", laid_millwright_api_ErrLong), ("millwright/api.ErrRegex", laid_millwright_api_ErrRegex), ("millwright/api.ErrFull", laid_millwright_api_ErrFull), ("millwright/rex.repeats", laid_millwright_rex_repeats)], narrowed := true }
def DenoteKleeneUptoSaid : Prop := denoteKleeneUptoRow.holds Tryd.pinned (OpenSpec.upto denoteKleeneSpec)

/-- 'millwrightlaw10.DenoteFirst', WHERE WHAT IT READS IS OF BULK AT MOST 1048576: true; the input reads as it did. -/
def denoteFirstUptoRow : OpenClaim := { program := "ytlkjejmmoalliaadoor", sum := "0e544741f0f56eba80ccb2d24becd7fb73659c7de5210bbb2552f2eb0ce171c9", func := "millwright/millwrightlaw10.DenoteFirst", spec := "denoteFirst", inPlace := ["internal/bytealg.IndexByteString"], unfollowed := true, recurses := true, named := ["millwright/api.ErrLong", "millwright/api.ErrRegex", "millwright/api.ErrFull", "millwright/rex.repeats"], loops := true, apart := false, laid := [("millwright/api.ErrLong", laid_millwright_api_ErrLong), ("millwright/api.ErrRegex", laid_millwright_api_ErrRegex), ("millwright/api.ErrFull", laid_millwright_api_ErrFull), ("millwright/rex.repeats", laid_millwright_rex_repeats)], narrowed := true }
def DenoteFirstUptoSaid : Prop := denoteFirstUptoRow.holds Tryd.pinned (OpenSpec.upto denoteFirstSpec)

end Rows
end Go.Proofs.YtlkjejmmoalliaaDoor
