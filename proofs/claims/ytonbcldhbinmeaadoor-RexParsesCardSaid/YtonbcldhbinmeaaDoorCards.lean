/-
  DERIVED. GIVEN WITH THE SEED: THE CARDS: each row of YtonbcldhbinmeaaDoorRows.lean that lists a variable, with what it lists TIED to the program's text (the seventh form; the later family's looks); each row that meets fmt, with fmt's text TOLD by the authors' own Lean function (tested against real Go, not proved from fmt's source: count such statements apart). THE CARD IS WHAT COUNTS. Prove the row's statement (the work); the ties are given (YtonbcldhbinmeaaDoorTie.lean); close each card by the builder's one call (the guide's Derived/Test/ToyasCard.lean, 'card_holds'). Laid BY PROGRAM, IN A SANDBOX (cutbox-door.mjs). By AI agents, Wed Nov 11 2026. No macro, syntax, notation, axiom, sorry.
-/
import Derived.Test.YtonbcldhbinmeaaDoorRows
import GoSem.ClaimSeven
namespace Go.Proofs.YtonbcldhbinmeaaDoor
namespace Rows

/-- THE TIED CARD OF 'millwrightlaw07.RexParses'. -/
def rexParsesCard : Claim7 := { stood := { row := rexParsesRow, standIns := [], harness := (true, "59fed81edc9e4379487dd09dbc7ff0684e0a3b6b65eb0e204f7fbca701870722"), looks := true }, kinds := [], alts := [], laidByText := true, laidKinds := [.sentinel, .sentinel, .sentinel, .sentinel, .sentinel, .sentinel, .sentinel, .sentinel, .sentinel, .sentinel, .sentinel, .sentinel, .sentinel, .sentinel, .sentinel, .sentinel, .sentinel, .sentinel, .data], laidTests := true, laidLooks := .later }
def RexParsesCardSaid : Prop := Claim7.holds Tryd.pinned (.plain (OpenSpec.ofChange rexParsesSpec)) rexParsesCard

/-- THE TIED CARD OF 'millwrightlaw07.RexSame'. -/
def rexSameCard : Claim7 := { stood := { row := rexSameRow, standIns := [], harness := (true, "59fed81edc9e4379487dd09dbc7ff0684e0a3b6b65eb0e204f7fbca701870722"), looks := true }, kinds := [], alts := [], laidByText := true, laidKinds := [.sentinel, .sentinel, .sentinel, .data, .data], laidTests := true, laidLooks := .later }
def RexSameCardSaid : Prop := Claim7.holds Tryd.pinned (.plain (OpenSpec.ofChange rexSameSpec)) rexSameCard

/-- THE TIED CARD OF 'millwrightlaw07.RexLiteral'. -/
def rexLiteralCard : Claim7 := { stood := { row := rexLiteralRow, standIns := [], harness := (true, "59fed81edc9e4379487dd09dbc7ff0684e0a3b6b65eb0e204f7fbca701870722"), looks := true }, kinds := [], alts := [], laidByText := true, laidKinds := [.sentinel, .sentinel, .sentinel, .data], laidTests := true, laidLooks := .later }
def RexLiteralCardSaid : Prop := Claim7.holds Tryd.pinned (.plain (OpenSpec.ofChange rexLiteralSpec)) rexLiteralCard

/-- THE SECOND FORM's CARD OF 'millwrightlaw07.RexParses'. -/
def rexParsesUptoCard : Claim7 := { stood := { row := rexParsesUptoRow, standIns := [], harness := (true, "59fed81edc9e4379487dd09dbc7ff0684e0a3b6b65eb0e204f7fbca701870722"), looks := true }, kinds := [], alts := [], laidByText := true, laidKinds := [.sentinel, .sentinel, .sentinel, .sentinel, .sentinel, .sentinel, .sentinel, .sentinel, .sentinel, .sentinel, .sentinel, .sentinel, .sentinel, .sentinel, .sentinel, .sentinel, .sentinel, .sentinel, .data], laidTests := true, laidLooks := .later }
def RexParsesUptoCardSaid : Prop := Claim7.holds Tryd.pinned (.plain (OpenSpec.upto rexParsesSpec)) rexParsesUptoCard

/-- THE SECOND FORM's CARD OF 'millwrightlaw07.RexSame'. -/
def rexSameUptoCard : Claim7 := { stood := { row := rexSameUptoRow, standIns := [], harness := (true, "59fed81edc9e4379487dd09dbc7ff0684e0a3b6b65eb0e204f7fbca701870722"), looks := true }, kinds := [], alts := [], laidByText := true, laidKinds := [.sentinel, .sentinel, .sentinel, .data, .data], laidTests := true, laidLooks := .later }
def RexSameUptoCardSaid : Prop := Claim7.holds Tryd.pinned (.plain (OpenSpec.upto rexSameSpec)) rexSameUptoCard

/-- THE SECOND FORM's CARD OF 'millwrightlaw07.RexLiteral'. -/
def rexLiteralUptoCard : Claim7 := { stood := { row := rexLiteralUptoRow, standIns := [], harness := (true, "59fed81edc9e4379487dd09dbc7ff0684e0a3b6b65eb0e204f7fbca701870722"), looks := true }, kinds := [], alts := [], laidByText := true, laidKinds := [.sentinel, .sentinel, .sentinel, .data], laidTests := true, laidLooks := .later }
def RexLiteralUptoCardSaid : Prop := Claim7.holds Tryd.pinned (.plain (OpenSpec.upto rexLiteralSpec)) rexLiteralUptoCard
end Rows
end Go.Proofs.YtonbcldhbinmeaaDoor
