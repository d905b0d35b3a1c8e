/-
  DERIVED. GIVEN WITH THE SEED: THE CARDS: each row of YtliefnjhobdphaaDoorRows.lean that lists a variable, with what it lists TIED to the program's text (the seventh form; the later family's looks); each row that meets fmt, with fmt's text TOLD by the authors' own Lean function (tested against real Go, not proved from fmt's source: count such statements apart). THE CARD IS WHAT COUNTS. Prove the row's statement (the work); the ties are given (YtliefnjhobdphaaDoorTie.lean); close each card by the builder's one call (the guide's Derived/Test/ToyasCard.lean, 'card_holds'). Laid BY PROGRAM, IN A SANDBOX (cutbox-door.mjs). By AI agents, Wed Nov 11 2026. No macro, syntax, notation, axiom, sorry.
-/
import Derived.Test.YtliefnjhobdphaaDoorRows
import GoSem.ClaimSeven
namespace Go.Proofs.YtliefnjhobdphaaDoor
namespace Rows

/-- THE TIED CARD OF 'millwrightlaw08.ProgOf'. -/
def progOfCard : Claim7 := { stood := { row := progOfRow, standIns := [], harness := (true, "81323cb3b39f2746bd0423c5b8ccbd53f93541c6f2592e2e2772c90d306c3d6f"), looks := true }, kinds := [], alts := [], laidByText := true, laidKinds := [.sentinel, .sentinel, .sentinel, .sentinel, .sentinel, .sentinel, .sentinel, .sentinel, .sentinel, .sentinel, .sentinel, .sentinel, .sentinel, .sentinel, .sentinel, .sentinel, .sentinel, .sentinel, .data], laidTests := true, laidLooks := .later }
def ProgOfCardSaid : Prop := Claim7.holds Tryd.pinned (.plain (OpenSpec.ofChange progOfSpec)) progOfCard

/-- THE TIED CARD OF 'millwrightlaw08.ProgCompiles'. -/
def progCompilesCard : Claim7 := { stood := { row := progCompilesRow, standIns := [], harness := (true, "81323cb3b39f2746bd0423c5b8ccbd53f93541c6f2592e2e2772c90d306c3d6f"), looks := true }, kinds := [], alts := [], laidByText := true, laidKinds := [.sentinel, .sentinel, .sentinel, .sentinel, .sentinel, .sentinel, .sentinel, .sentinel, .sentinel, .sentinel, .sentinel, .sentinel, .sentinel, .sentinel, .sentinel, .sentinel, .sentinel, .sentinel, .data], laidTests := true, laidLooks := .later }
def ProgCompilesCardSaid : Prop := Claim7.holds Tryd.pinned (.plain (OpenSpec.ofChange progCompilesSpec)) progCompilesCard

/-- THE TIED CARD OF 'millwrightlaw08.ProgClosed'. -/
def progClosedCard : Claim7 := { stood := { row := progClosedRow, standIns := [], harness := (true, "81323cb3b39f2746bd0423c5b8ccbd53f93541c6f2592e2e2772c90d306c3d6f"), looks := true }, kinds := [], alts := [], laidByText := true, laidKinds := [.sentinel, .sentinel, .sentinel, .sentinel, .data], laidTests := true, laidLooks := .later }
def ProgClosedCardSaid : Prop := Claim7.holds Tryd.pinned (.plain (OpenSpec.ofChange progClosedSpec)) progClosedCard

/-- THE SECOND FORM's CARD OF 'millwrightlaw08.ProgOf'. -/
def progOfUptoCard : Claim7 := { stood := { row := progOfUptoRow, standIns := [], harness := (true, "81323cb3b39f2746bd0423c5b8ccbd53f93541c6f2592e2e2772c90d306c3d6f"), looks := true }, kinds := [], alts := [], laidByText := true, laidKinds := [.sentinel, .sentinel, .sentinel, .sentinel, .sentinel, .sentinel, .sentinel, .sentinel, .sentinel, .sentinel, .sentinel, .sentinel, .sentinel, .sentinel, .sentinel, .sentinel, .sentinel, .sentinel, .data], laidTests := true, laidLooks := .later }
def ProgOfUptoCardSaid : Prop := Claim7.holds Tryd.pinned (.plain (OpenSpec.upto progOfSpec)) progOfUptoCard

/-- THE SECOND FORM's CARD OF 'millwrightlaw08.ProgCompiles'. -/
def progCompilesUptoCard : Claim7 := { stood := { row := progCompilesUptoRow, standIns := [], harness := (true, "81323cb3b39f2746bd0423c5b8ccbd53f93541c6f2592e2e2772c90d306c3d6f"), looks := true }, kinds := [], alts := [], laidByText := true, laidKinds := [.sentinel, .sentinel, .sentinel, .sentinel, .sentinel, .sentinel, .sentinel, .sentinel, .sentinel, .sentinel, .sentinel, .sentinel, .sentinel, .sentinel, .sentinel, .sentinel, .sentinel, .sentinel, .data], laidTests := true, laidLooks := .later }
def ProgCompilesUptoCardSaid : Prop := Claim7.holds Tryd.pinned (.plain (OpenSpec.upto progCompilesSpec)) progCompilesUptoCard

/-- THE SECOND FORM's CARD OF 'millwrightlaw08.ProgClosed'. -/
def progClosedUptoCard : Claim7 := { stood := { row := progClosedUptoRow, standIns := [], harness := (true, "81323cb3b39f2746bd0423c5b8ccbd53f93541c6f2592e2e2772c90d306c3d6f"), looks := true }, kinds := [], alts := [], laidByText := true, laidKinds := [.sentinel, .sentinel, .sentinel, .sentinel, .data], laidTests := true, laidLooks := .later }
def ProgClosedUptoCardSaid : Prop := Claim7.holds Tryd.pinned (.plain (OpenSpec.upto progClosedSpec)) progClosedUptoCard
end Rows
end Go.Proofs.YtliefnjhobdphaaDoor
