/-
  DERIVED. GIVEN WITH THE SEED: THE CARDS: each row of YtpedamncnimgpaaGreatDoorRows.lean that lists a variable, with what it lists TIED to the program's text (the seventh form; the later family's looks); each row that meets fmt, with fmt's text TOLD by the authors' own Lean function (tested against real Go, not proved from fmt's source: count such statements apart). THE CARD IS WHAT COUNTS. Prove the row's statement (the work); the ties are given (YtpedamncnimgpaaGreatDoorTie.lean); close each card by the builder's one call (the guide's Derived/Test/ToyasCard.lean, 'card_holds'). Laid BY PROGRAM, IN A SANDBOX (cutbox-door.mjs). By AI agents, Wed Nov 11 2026. No macro, syntax, notation, axiom, sorry.
-/
import Derived.Test.YtpedamncnimgpaaGreatDoorRows
import GoSem.ClaimSeven
namespace Go.Proofs.YtpedamncnimgpaaGreatDoor
namespace Rows

/-- THE TIED CARD OF 'millwrightlaw04.StatTimes'. -/
def statTimesCard : Claim7 := { stood := { row := statTimesRow, standIns := [], harness := (true, "0627d1e18694d29b7cf6bf9183e968cb2441b47703e06c000a81d3308c836289"), looks := true }, kinds := [], alts := [], laidByText := true, laidKinds := [.data, .data, .data, .data, .sentinel, .sentinel, .sentinel, .sentinel, .sentinel, .sentinel, .sentinel, .sentinel, .pinned], laidTests := true, laidLooks := .later }
def StatTimesCardSaid : Prop := Claim7.holds Tryz.pinned (.plain (OpenSpec.ofChange statTimesSpec)) statTimesCard

/-- THE TIED CARD OF 'millwrightlaw04.StatSets'. -/
def statSetsCard : Claim7 := { stood := { row := statSetsRow, standIns := [], harness := (true, "0627d1e18694d29b7cf6bf9183e968cb2441b47703e06c000a81d3308c836289"), looks := true }, kinds := [], alts := [], laidByText := true, laidKinds := [.data, .data, .data, .data, .sentinel, .sentinel, .sentinel, .sentinel, .sentinel, .sentinel, .sentinel, .sentinel, .sentinel, .sentinel, .sentinel, .sentinel, .sentinel, .sentinel, .sentinel, .sentinel, .sentinel, .sentinel, .sentinel, .sentinel, .pinned], laidTests := true, laidLooks := .later }
def StatSetsCardSaid : Prop := Claim7.holds Tryz.pinned (.plain (OpenSpec.ofChange statSetsSpec)) statSetsCard

/-- THE TIED CARD OF 'millwrightlaw04.StatApart'. -/
def statApartCard : Claim7 := { stood := { row := statApartRow, standIns := [], harness := (true, "0627d1e18694d29b7cf6bf9183e968cb2441b47703e06c000a81d3308c836289"), looks := true }, kinds := [], alts := [], laidByText := true, laidKinds := [.data, .data, .data, .data, .sentinel, .sentinel, .sentinel, .sentinel, .sentinel, .sentinel, .sentinel, .sentinel, .pinned], laidTests := true, laidLooks := .later }
def StatApartCardSaid : Prop := Claim7.holds Tryz.pinned (.plain (OpenSpec.ofChange statApartSpec)) statApartCard

/-- THE SECOND FORM's CARD OF 'millwrightlaw04.StatTimes'. -/
def statTimesUptoCard : Claim7 := { stood := { row := statTimesUptoRow, standIns := [], harness := (true, "0627d1e18694d29b7cf6bf9183e968cb2441b47703e06c000a81d3308c836289"), looks := true }, kinds := [], alts := [], laidByText := true, laidKinds := [.data, .data, .data, .data, .sentinel, .sentinel, .sentinel, .sentinel, .sentinel, .sentinel, .sentinel, .sentinel, .pinned], laidTests := true, laidLooks := .later }
def StatTimesUptoCardSaid : Prop := Claim7.holds Tryz.pinned (.plain (OpenSpec.upto statTimesSpec)) statTimesUptoCard

/-- THE SECOND FORM's CARD OF 'millwrightlaw04.StatSets'. -/
def statSetsUptoCard : Claim7 := { stood := { row := statSetsUptoRow, standIns := [], harness := (true, "0627d1e18694d29b7cf6bf9183e968cb2441b47703e06c000a81d3308c836289"), looks := true }, kinds := [], alts := [], laidByText := true, laidKinds := [.data, .data, .data, .data, .sentinel, .sentinel, .sentinel, .sentinel, .sentinel, .sentinel, .sentinel, .sentinel, .sentinel, .sentinel, .sentinel, .sentinel, .sentinel, .sentinel, .sentinel, .sentinel, .sentinel, .sentinel, .sentinel, .sentinel, .pinned], laidTests := true, laidLooks := .later }
def StatSetsUptoCardSaid : Prop := Claim7.holds Tryz.pinned (.plain (OpenSpec.upto statSetsSpec)) statSetsUptoCard

/-- THE SECOND FORM's CARD OF 'millwrightlaw04.StatApart'. -/
def statApartUptoCard : Claim7 := { stood := { row := statApartUptoRow, standIns := [], harness := (true, "0627d1e18694d29b7cf6bf9183e968cb2441b47703e06c000a81d3308c836289"), looks := true }, kinds := [], alts := [], laidByText := true, laidKinds := [.data, .data, .data, .data, .sentinel, .sentinel, .sentinel, .sentinel, .sentinel, .sentinel, .sentinel, .sentinel, .pinned], laidTests := true, laidLooks := .later }
def StatApartUptoCardSaid : Prop := Claim7.holds Tryz.pinned (.plain (OpenSpec.upto statApartSpec)) statApartUptoCard
end Rows
end Go.Proofs.YtpedamncnimgpaaGreatDoor
