/-
  DERIVED. GIVEN WITH THE SEED: THE CARDS: each row of YtaihpgjimhifcaaDoorRows.lean that lists a variable, with what it lists TIED to the program's text (the seventh form; the later family's looks); each row that meets fmt, with fmt's text TOLD by the authors' own Lean function (tested against real Go, not proved from fmt's source: count such statements apart). THE CARD IS WHAT COUNTS. Prove the row's statement (the work); the ties are given (YtaihpgjimhifcaaDoorTie.lean); close each card by the builder's one call (the guide's Derived/Test/ToyasCard.lean, 'card_holds'). Laid BY PROGRAM, IN A SANDBOX (cutbox-door.mjs). By AI agents, Wed Nov 11 2026. No macro, syntax, notation, axiom, sorry.
-/
import Derived.Test.YtaihpgjimhifcaaDoorRows
import GoSem.ClaimSeven
namespace Go.Proofs.YtaihpgjimhifcaaDoor
namespace Rows

/-- THE TIED CARD OF 'millwrightlaw14.EnvPlays'. -/
def envPlaysCard : Claim7 := { stood := { row := envPlaysRow, standIns := [], harness := (true, "c79b7cb9e78dcbaa3f5f4256c429c5b480d98eea5cec5a904201a9df3f59d9ff"), looks := true }, kinds := [], alts := [], laidByText := true, laidKinds := [.sentinel, .sentinel, .sentinel, .sentinel, .sentinel, .sentinel, .sentinel, .sentinel, .sentinel, .sentinel, .sentinel, .sentinel, .sentinel, .sentinel, .sentinel, .sentinel, .sentinel, .sentinel], laidTests := true, laidLooks := .later }
def EnvPlaysCardSaid : Prop := Claim7.holds Tryd.pinned (.plain (OpenSpec.ofChange envPlaysSpec)) envPlaysCard

/-- THE TIED CARD OF 'millwrightlaw14.EnvStays'. -/
def envStaysCard : Claim7 := { stood := { row := envStaysRow, standIns := [], harness := (true, "c79b7cb9e78dcbaa3f5f4256c429c5b480d98eea5cec5a904201a9df3f59d9ff"), looks := true }, kinds := [], alts := [], laidByText := true, laidKinds := [.sentinel, .sentinel, .sentinel, .sentinel], laidTests := true, laidLooks := .later }
def EnvStaysCardSaid : Prop := Claim7.holds Tryd.pinned (.plain (OpenSpec.ofChange envStaysSpec)) envStaysCard

/-- THE SECOND FORM's CARD OF 'millwrightlaw14.EnvPlays'. -/
def envPlaysUptoCard : Claim7 := { stood := { row := envPlaysUptoRow, standIns := [], harness := (true, "c79b7cb9e78dcbaa3f5f4256c429c5b480d98eea5cec5a904201a9df3f59d9ff"), looks := true }, kinds := [], alts := [], laidByText := true, laidKinds := [.sentinel, .sentinel, .sentinel, .sentinel, .sentinel, .sentinel, .sentinel, .sentinel, .sentinel, .sentinel, .sentinel, .sentinel, .sentinel, .sentinel, .sentinel, .sentinel, .sentinel, .sentinel], laidTests := true, laidLooks := .later }
def EnvPlaysUptoCardSaid : Prop := Claim7.holds Tryd.pinned (.plain (OpenSpec.upto envPlaysSpec)) envPlaysUptoCard

/-- THE SECOND FORM's CARD OF 'millwrightlaw14.EnvStays'. -/
def envStaysUptoCard : Claim7 := { stood := { row := envStaysUptoRow, standIns := [], harness := (true, "c79b7cb9e78dcbaa3f5f4256c429c5b480d98eea5cec5a904201a9df3f59d9ff"), looks := true }, kinds := [], alts := [], laidByText := true, laidKinds := [.sentinel, .sentinel, .sentinel, .sentinel], laidTests := true, laidLooks := .later }
def EnvStaysUptoCardSaid : Prop := Claim7.holds Tryd.pinned (.plain (OpenSpec.upto envStaysSpec)) envStaysUptoCard
end Rows
end Go.Proofs.YtaihpgjimhifcaaDoor
