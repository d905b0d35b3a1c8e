/-
  DERIVED. GIVEN WITH THE SEED: THE CARDS: each row of YtgpmhnpacpgckaaDoorRows.lean that lists a variable, with what it lists TIED to the program's text (the seventh form; the later family's looks); each row that meets fmt, with fmt's text TOLD by the authors' own Lean function (tested against real Go, not proved from fmt's source: count such statements apart). THE CARD IS WHAT COUNTS. Prove the row's statement (the work); the ties are given (YtgpmhnpacpgckaaDoorTie.lean); close each card by the builder's one call (the guide's Derived/Test/ToyasCard.lean, 'card_holds'). Laid BY PROGRAM, IN A SANDBOX (cutbox-door.mjs). By AI agents, Wed Nov 11 2026. No macro, syntax, notation, axiom, sorry.
-/
import Derived.Test.YtgpmhnpacpgckaaDoorRows
import GoSem.ClaimSeven
namespace Go.Proofs.YtgpmhnpacpgckaaDoor
namespace Rows

/-- THE TIED CARD OF 'millwrightlaw09.PikeMatches'. -/
def pikeMatchesCard : Claim7 := { stood := { row := pikeMatchesRow, standIns := [], harness := (true, "ae92a7d87bc6f6a4291678eae48742e622d6094c642389969dc6aa2e1ff10721"), looks := false }, kinds := [], alts := [], laidByText := true, laidKinds := [.sentinel, .sentinel, .sentinel, .sentinel, .data], laidTests := true, laidLooks := .later }
def PikeMatchesCardSaid : Prop := Claim7.holds Tryd.pinned (.plain (OpenSpec.ofChange pikeMatchesSpec)) pikeMatchesCard

/-- THE TIED CARD OF 'millwrightlaw09.PikePart'. -/
def pikePartCard : Claim7 := { stood := { row := pikePartRow, standIns := [], harness := (true, "ae92a7d87bc6f6a4291678eae48742e622d6094c642389969dc6aa2e1ff10721"), looks := false }, kinds := [], alts := [], laidByText := true, laidKinds := [.sentinel, .sentinel, .sentinel, .sentinel, .data], laidTests := true, laidLooks := .later }
def PikePartCardSaid : Prop := Claim7.holds Tryd.pinned (.plain (OpenSpec.ofChange pikePartSpec)) pikePartCard

/-- THE SECOND FORM's CARD OF 'millwrightlaw09.PikeMatches'. -/
def pikeMatchesUptoCard : Claim7 := { stood := { row := pikeMatchesUptoRow, standIns := [], harness := (true, "ae92a7d87bc6f6a4291678eae48742e622d6094c642389969dc6aa2e1ff10721"), looks := false }, kinds := [], alts := [], laidByText := true, laidKinds := [.sentinel, .sentinel, .sentinel, .sentinel, .data], laidTests := true, laidLooks := .later }
def PikeMatchesUptoCardSaid : Prop := Claim7.holds Tryd.pinned (.plain (OpenSpec.upto pikeMatchesSpec)) pikeMatchesUptoCard

/-- THE SECOND FORM's CARD OF 'millwrightlaw09.PikePart'. -/
def pikePartUptoCard : Claim7 := { stood := { row := pikePartUptoRow, standIns := [], harness := (true, "ae92a7d87bc6f6a4291678eae48742e622d6094c642389969dc6aa2e1ff10721"), looks := false }, kinds := [], alts := [], laidByText := true, laidKinds := [.sentinel, .sentinel, .sentinel, .sentinel, .data], laidTests := true, laidLooks := .later }
def PikePartUptoCardSaid : Prop := Claim7.holds Tryd.pinned (.plain (OpenSpec.upto pikePartSpec)) pikePartUptoCard
end Rows
end Go.Proofs.YtgpmhnpacpgckaaDoor
