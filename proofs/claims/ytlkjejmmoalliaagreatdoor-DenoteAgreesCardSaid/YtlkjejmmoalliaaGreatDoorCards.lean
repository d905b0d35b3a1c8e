/-
  DERIVED. GIVEN WITH THE SEED: THE CARDS: each row of YtlkjejmmoalliaaGreatDoorRows.lean that lists a variable, with what it lists TIED to the program's text (the seventh form; the later family's looks); each row that meets fmt, with fmt's text TOLD by the authors' own Lean function (tested against real Go, not proved from fmt's source: count such statements apart). THE CARD IS WHAT COUNTS. Prove the row's statement (the work); the ties are given (YtlkjejmmoalliaaGreatDoorTie.lean); close each card by the builder's one call (the guide's Derived/Test/ToyasCard.lean, 'card_holds'). Laid BY PROGRAM, IN A SANDBOX (cutbox-door.mjs). By AI agents, Wed Nov 11 2026. No macro, syntax, notation, axiom, sorry.
-/
import Derived.Test.YtlkjejmmoalliaaGreatDoorRows
import GoSem.ClaimSeven
namespace Go.Proofs.YtlkjejmmoalliaaGreatDoor
namespace Rows

/-- THE TIED CARD OF 'millwrightlaw10.DenoteAgrees'. -/
def denoteAgreesCard : Claim7 := { stood := { row := denoteAgreesRow, standIns := [], harness := (true, "75fa6346a6ba29065e8d5a9e939727d891be801ea36b34f5f00b95664f970988"), looks := true }, kinds := [], alts := [], laidByText := true, laidKinds := [.sentinel, .sentinel, .sentinel, .sentinel, .sentinel, .sentinel, .sentinel, .sentinel, .sentinel, .sentinel, .sentinel, .sentinel, .sentinel, .sentinel, .sentinel, .sentinel, .sentinel, .sentinel, .data], laidTests := true, laidLooks := .later }
def DenoteAgreesCardSaid : Prop := Claim7.holds Tryz.pinned (.plain (OpenSpec.ofChange denoteAgreesSpec)) denoteAgreesCard

/-- THE SECOND FORM's CARD OF 'millwrightlaw10.DenoteAgrees'. -/
def denoteAgreesUptoCard : Claim7 := { stood := { row := denoteAgreesUptoRow, standIns := [], harness := (true, "75fa6346a6ba29065e8d5a9e939727d891be801ea36b34f5f00b95664f970988"), looks := true }, kinds := [], alts := [], laidByText := true, laidKinds := [.sentinel, .sentinel, .sentinel, .sentinel, .sentinel, .sentinel, .sentinel, .sentinel, .sentinel, .sentinel, .sentinel, .sentinel, .sentinel, .sentinel, .sentinel, .sentinel, .sentinel, .sentinel, .data], laidTests := true, laidLooks := .later }
def DenoteAgreesUptoCardSaid : Prop := Claim7.holds Tryz.pinned (.plain (OpenSpec.upto denoteAgreesSpec)) denoteAgreesUptoCard
end Rows
end Go.Proofs.YtlkjejmmoalliaaGreatDoor
