/-
  DERIVED. GIVEN WITH THE SEED: THE CARDS: each row of YtbcemenfklgnkaaGreatDoorRows.lean that lists a variable, with what it lists TIED to the program's text (the seventh form; the later family's looks); each row that meets fmt, with fmt's text TOLD by the authors' own Lean function (tested against real Go, not proved from fmt's source: count such statements apart). THE CARD IS WHAT COUNTS. Prove the row's statement (the work); the ties are given (YtbcemenfklgnkaaGreatDoorTie.lean); close each card by the builder's one call (the guide's Derived/Test/ToyasCard.lean, 'card_holds'). Laid BY PROGRAM, IN A SANDBOX (cutbox-door.mjs). By AI agents, Wed Nov 11 2026. No macro, syntax, notation, axiom, sorry.
-/
import Derived.Test.YtbcemenfklgnkaaGreatDoorRows
import GoSem.ClaimSeven
namespace Go.Proofs.YtbcemenfklgnkaaGreatDoor
namespace Rows

/-- THE TIED CARD OF 'millwrightlaw05.EffectApplies'. -/
def effectAppliesCard : Claim7 := { stood := { row := effectAppliesRow, standIns := [], harness := (true, "d28dd56e67a3d301fa1bddb905a69712ea5bfae954b986c3a14ad3d9402096ff"), looks := true }, kinds := [], alts := [], laidByText := true, laidKinds := [.data, .data, .data, .data, .sentinel, .sentinel, .sentinel, .sentinel, .sentinel, .sentinel, .sentinel, .sentinel, .sentinel, .sentinel, .sentinel, .sentinel, .sentinel, .sentinel, .sentinel, .sentinel, .sentinel, .sentinel, .sentinel, .sentinel, .pinned], laidTests := true, laidLooks := .later }
def EffectAppliesCardSaid : Prop := Claim7.holds Tryz.pinned (.plain (OpenSpec.ofChange effectAppliesSpec)) effectAppliesCard

/-- THE TIED CARD OF 'millwrightlaw05.EffectOwn'. -/
def effectOwnCard : Claim7 := { stood := { row := effectOwnRow, standIns := [], harness := (true, "d28dd56e67a3d301fa1bddb905a69712ea5bfae954b986c3a14ad3d9402096ff"), looks := true }, kinds := [], alts := [], laidByText := true, laidKinds := [.data, .data, .data, .data, .sentinel, .sentinel, .sentinel, .sentinel, .sentinel, .sentinel, .sentinel, .sentinel, .sentinel, .sentinel, .pinned], laidTests := true, laidLooks := .later }
def EffectOwnCardSaid : Prop := Claim7.holds Tryz.pinned (.plain (OpenSpec.ofChange effectOwnSpec)) effectOwnCard

/-- THE TIED CARD OF 'millwrightlaw05.EffectTouches'. -/
def effectTouchesCard : Claim7 := { stood := { row := effectTouchesRow, standIns := [], harness := (true, "d28dd56e67a3d301fa1bddb905a69712ea5bfae954b986c3a14ad3d9402096ff"), looks := true }, kinds := [], alts := [], laidByText := true, laidKinds := [.data, .data, .data, .data, .sentinel, .sentinel, .sentinel, .sentinel, .sentinel, .sentinel, .sentinel, .sentinel, .sentinel, .sentinel, .pinned], laidTests := true, laidLooks := .later }
def EffectTouchesCardSaid : Prop := Claim7.holds Tryz.pinned (.plain (OpenSpec.ofChange effectTouchesSpec)) effectTouchesCard

/-- THE SECOND FORM's CARD OF 'millwrightlaw05.EffectApplies'. -/
def effectAppliesUptoCard : Claim7 := { stood := { row := effectAppliesUptoRow, standIns := [], harness := (true, "d28dd56e67a3d301fa1bddb905a69712ea5bfae954b986c3a14ad3d9402096ff"), looks := true }, kinds := [], alts := [], laidByText := true, laidKinds := [.data, .data, .data, .data, .sentinel, .sentinel, .sentinel, .sentinel, .sentinel, .sentinel, .sentinel, .sentinel, .sentinel, .sentinel, .sentinel, .sentinel, .sentinel, .sentinel, .sentinel, .sentinel, .sentinel, .sentinel, .sentinel, .sentinel, .pinned], laidTests := true, laidLooks := .later }
def EffectAppliesUptoCardSaid : Prop := Claim7.holds Tryz.pinned (.plain (OpenSpec.upto effectAppliesSpec)) effectAppliesUptoCard

/-- THE SECOND FORM's CARD OF 'millwrightlaw05.EffectOwn'. -/
def effectOwnUptoCard : Claim7 := { stood := { row := effectOwnUptoRow, standIns := [], harness := (true, "d28dd56e67a3d301fa1bddb905a69712ea5bfae954b986c3a14ad3d9402096ff"), looks := true }, kinds := [], alts := [], laidByText := true, laidKinds := [.data, .data, .data, .data, .sentinel, .sentinel, .sentinel, .sentinel, .sentinel, .sentinel, .sentinel, .sentinel, .sentinel, .sentinel, .pinned], laidTests := true, laidLooks := .later }
def EffectOwnUptoCardSaid : Prop := Claim7.holds Tryz.pinned (.plain (OpenSpec.upto effectOwnSpec)) effectOwnUptoCard

/-- THE SECOND FORM's CARD OF 'millwrightlaw05.EffectTouches'. -/
def effectTouchesUptoCard : Claim7 := { stood := { row := effectTouchesUptoRow, standIns := [], harness := (true, "d28dd56e67a3d301fa1bddb905a69712ea5bfae954b986c3a14ad3d9402096ff"), looks := true }, kinds := [], alts := [], laidByText := true, laidKinds := [.data, .data, .data, .data, .sentinel, .sentinel, .sentinel, .sentinel, .sentinel, .sentinel, .sentinel, .sentinel, .sentinel, .sentinel, .pinned], laidTests := true, laidLooks := .later }
def EffectTouchesUptoCardSaid : Prop := Claim7.holds Tryz.pinned (.plain (OpenSpec.upto effectTouchesSpec)) effectTouchesUptoCard
end Rows
end Go.Proofs.YtbcemenfklgnkaaGreatDoor
