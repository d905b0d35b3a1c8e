/-
  DERIVED. GIVEN WITH THE SEED: THE CARDS: each row of YtlkjejmmoalliaaDoorRows.lean that lists a variable, with what it lists TIED to the program's text (the seventh form; the later family's looks); each row that meets fmt, with fmt's text TOLD by the authors' own Lean function (tested against real Go, not proved from fmt's source: count such statements apart). THE CARD IS WHAT COUNTS. Prove the row's statement (the work); the ties are given (YtlkjejmmoalliaaDoorTie.lean); close each card by the builder's one call (the guide's Derived/Test/ToyasCard.lean, 'card_holds'). Laid BY PROGRAM, IN A SANDBOX (cutbox-door.mjs). By AI agents, Wed Nov 11 2026. No macro, syntax, notation, axiom, sorry.
-/
import Derived.Test.YtlkjejmmoalliaaDoorRows
import GoSem.ClaimSeven
namespace Go.Proofs.YtlkjejmmoalliaaDoor
namespace Rows

/-- THE TIED CARD OF 'millwrightlaw10.DenoteEnds'. -/
def denoteEndsCard : Claim7 := { stood := { row := denoteEndsRow, standIns := [], harness := (true, "995a2d6e768202cbb5d8376a6526e81556103442571891fbdae60ed36f042850"), looks := false }, kinds := [], alts := [], laidByText := true, laidKinds := [.sentinel, .sentinel, .sentinel, .data], laidTests := true, laidLooks := .later }
def DenoteEndsCardSaid : Prop := Claim7.holds Tryd.pinned (.plain (OpenSpec.ofChange denoteEndsSpec)) denoteEndsCard

/-- THE TIED CARD OF 'millwrightlaw10.DenoteKleene'. -/
def denoteKleeneCard : Claim7 := { stood := { row := denoteKleeneRow, standIns := [], harness := (true, "995a2d6e768202cbb5d8376a6526e81556103442571891fbdae60ed36f042850"), looks := false }, kinds := [], alts := [], laidByText := true, laidKinds := [.sentinel, .sentinel, .sentinel, .data], laidTests := true, laidLooks := .later }
def DenoteKleeneCardSaid : Prop := Claim7.holds Tryd.pinned (.plain (OpenSpec.ofChange denoteKleeneSpec)) denoteKleeneCard

/-- THE TIED CARD OF 'millwrightlaw10.DenoteFirst'. -/
def denoteFirstCard : Claim7 := { stood := { row := denoteFirstRow, standIns := [], harness := (true, "995a2d6e768202cbb5d8376a6526e81556103442571891fbdae60ed36f042850"), looks := false }, kinds := [], alts := [], laidByText := true, laidKinds := [.sentinel, .sentinel, .sentinel, .data], laidTests := true, laidLooks := .later }
def DenoteFirstCardSaid : Prop := Claim7.holds Tryd.pinned (.plain (OpenSpec.ofChange denoteFirstSpec)) denoteFirstCard

/-- THE SECOND FORM's CARD OF 'millwrightlaw10.DenoteEnds'. -/
def denoteEndsUptoCard : Claim7 := { stood := { row := denoteEndsUptoRow, standIns := [], harness := (true, "995a2d6e768202cbb5d8376a6526e81556103442571891fbdae60ed36f042850"), looks := false }, kinds := [], alts := [], laidByText := true, laidKinds := [.sentinel, .sentinel, .sentinel, .data], laidTests := true, laidLooks := .later }
def DenoteEndsUptoCardSaid : Prop := Claim7.holds Tryd.pinned (.plain (OpenSpec.upto denoteEndsSpec)) denoteEndsUptoCard

/-- THE SECOND FORM's CARD OF 'millwrightlaw10.DenoteKleene'. -/
def denoteKleeneUptoCard : Claim7 := { stood := { row := denoteKleeneUptoRow, standIns := [], harness := (true, "995a2d6e768202cbb5d8376a6526e81556103442571891fbdae60ed36f042850"), looks := false }, kinds := [], alts := [], laidByText := true, laidKinds := [.sentinel, .sentinel, .sentinel, .data], laidTests := true, laidLooks := .later }
def DenoteKleeneUptoCardSaid : Prop := Claim7.holds Tryd.pinned (.plain (OpenSpec.upto denoteKleeneSpec)) denoteKleeneUptoCard

/-- THE SECOND FORM's CARD OF 'millwrightlaw10.DenoteFirst'. -/
def denoteFirstUptoCard : Claim7 := { stood := { row := denoteFirstUptoRow, standIns := [], harness := (true, "995a2d6e768202cbb5d8376a6526e81556103442571891fbdae60ed36f042850"), looks := false }, kinds := [], alts := [], laidByText := true, laidKinds := [.sentinel, .sentinel, .sentinel, .data], laidTests := true, laidLooks := .later }
def DenoteFirstUptoCardSaid : Prop := Claim7.holds Tryd.pinned (.plain (OpenSpec.upto denoteFirstSpec)) denoteFirstUptoCard
end Rows
end Go.Proofs.YtlkjejmmoalliaaDoor
