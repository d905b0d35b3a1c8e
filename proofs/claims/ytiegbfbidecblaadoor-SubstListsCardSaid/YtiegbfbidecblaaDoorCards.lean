/-
  DERIVED. GIVEN WITH THE SEED: THE CARDS: each row of YtiegbfbidecblaaDoorRows.lean that lists a variable, with what it lists TIED to the program's text (the seventh form; the later family's looks); each row that meets fmt, with fmt's text TOLD by the authors' own Lean function (tested against real Go, not proved from fmt's source: count such statements apart). THE CARD IS WHAT COUNTS. Prove the row's statement (the work); the ties are given (YtiegbfbidecblaaDoorTie.lean); close each card by the builder's one call (the guide's Derived/Test/ToyasCard.lean, 'card_holds'). Laid BY PROGRAM, IN A SANDBOX (cutbox-door.mjs). By AI agents, Wed Nov 11 2026. No macro, syntax, notation, axiom, sorry.
-/
import Derived.Test.YtiegbfbidecblaaDoorRows
import GoSem.ClaimSeven
namespace Go.Proofs.YtiegbfbidecblaaDoor
namespace Rows

/-- THE TIED CARD OF 'millwrightlaw16.SubstLists'. -/
def substListsCard : Claim7 := { stood := { row := substListsRow, standIns := [], harness := (true, "7ea56b8c211f131e97f4c3b8d698bd93cbcf7531b121ad9f42a26bffd2fd2a99"), looks := true }, kinds := [], alts := [], laidByText := true, laidKinds := [.sentinel, .sentinel, .sentinel, .sentinel, .sentinel, .sentinel, .sentinel, .sentinel, .sentinel, .sentinel, .sentinel, .sentinel, .sentinel, .sentinel, .sentinel, .sentinel, .sentinel, .sentinel], laidTests := true, laidLooks := .later }
def SubstListsCardSaid : Prop := Claim7.holds Tryd.pinned (.plain (OpenSpec.ofChange substListsSpec)) substListsCard

/-- THE SECOND FORM's CARD OF 'millwrightlaw16.SubstLists'. -/
def substListsUptoCard : Claim7 := { stood := { row := substListsUptoRow, standIns := [], harness := (true, "7ea56b8c211f131e97f4c3b8d698bd93cbcf7531b121ad9f42a26bffd2fd2a99"), looks := true }, kinds := [], alts := [], laidByText := true, laidKinds := [.sentinel, .sentinel, .sentinel, .sentinel, .sentinel, .sentinel, .sentinel, .sentinel, .sentinel, .sentinel, .sentinel, .sentinel, .sentinel, .sentinel, .sentinel, .sentinel, .sentinel, .sentinel], laidTests := true, laidLooks := .later }
def SubstListsUptoCardSaid : Prop := Claim7.holds Tryd.pinned (.plain (OpenSpec.upto substListsSpec)) substListsUptoCard
end Rows
end Go.Proofs.YtiegbfbidecblaaDoor
