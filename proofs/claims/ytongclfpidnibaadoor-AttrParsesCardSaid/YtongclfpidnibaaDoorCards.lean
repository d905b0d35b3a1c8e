/-
  DERIVED. GIVEN WITH THE SEED: THE CARDS: each row of YtongclfpidnibaaDoorRows.lean that lists a variable, with what it lists TIED to the program's text (the seventh form; the later family's looks); each row that meets fmt, with fmt's text TOLD by the authors' own Lean function (tested against real Go, not proved from fmt's source: count such statements apart). THE CARD IS WHAT COUNTS. Prove the row's statement (the work); the ties are given (YtongclfpidnibaaDoorTie.lean); close each card by the builder's one call (the guide's Derived/Test/ToyasCard.lean, 'card_holds'). Laid BY PROGRAM, IN A SANDBOX (cutbox-door.mjs). By AI agents, Wed Nov 11 2026. No macro, syntax, notation, axiom, sorry.
-/
import Derived.Test.YtongclfpidnibaaDoorRows
import GoSem.ClaimSeven
namespace Go.Proofs.YtongclfpidnibaaDoor
namespace Rows

/-- THE TIED CARD OF 'millwrightlaw18.AttrParses'. -/
def attrParsesCard : Claim7 := { stood := { row := attrParsesRow, standIns := [], harness := (true, "446fdc15bd45f08ba96b163dcca416c86098b1fe41d429c66962e0e491512e57"), looks := true }, kinds := [], alts := [], laidByText := true, laidKinds := [.sentinel, .sentinel, .sentinel, .sentinel, .sentinel, .sentinel, .sentinel, .sentinel, .sentinel, .sentinel, .sentinel, .sentinel, .sentinel, .sentinel, .sentinel, .sentinel, .sentinel, .sentinel, .data], laidTests := true, laidLooks := .later }
def AttrParsesCardSaid : Prop := Claim7.holds Tryd.pinned (.plain (OpenSpec.ofChange attrParsesSpec)) attrParsesCard

/-- THE TIED CARD OF 'millwrightlaw18.AttrTexts'. -/
def attrTextsCard : Claim7 := { stood := { row := attrTextsRow, standIns := [], harness := (true, "446fdc15bd45f08ba96b163dcca416c86098b1fe41d429c66962e0e491512e57"), looks := true }, kinds := [], alts := [], laidByText := true, laidKinds := [.sentinel, .sentinel, .data], laidTests := true, laidLooks := .later }
def AttrTextsCardSaid : Prop := Claim7.holds Tryd.pinned (.plain (OpenSpec.ofChange attrTextsSpec)) attrTextsCard

/-- THE TIED CARD OF 'millwrightlaw18.AttrMerges'. -/
def attrMergesCard : Claim7 := { stood := { row := attrMergesRow, standIns := [], harness := (true, "446fdc15bd45f08ba96b163dcca416c86098b1fe41d429c66962e0e491512e57"), looks := true }, kinds := [], alts := [], laidByText := true, laidKinds := [.sentinel, .sentinel, .data], laidTests := true, laidLooks := .later }
def AttrMergesCardSaid : Prop := Claim7.holds Tryd.pinned (.plain (OpenSpec.ofChange attrMergesSpec)) attrMergesCard

/-- THE SECOND FORM's CARD OF 'millwrightlaw18.AttrParses'. -/
def attrParsesUptoCard : Claim7 := { stood := { row := attrParsesUptoRow, standIns := [], harness := (true, "446fdc15bd45f08ba96b163dcca416c86098b1fe41d429c66962e0e491512e57"), looks := true }, kinds := [], alts := [], laidByText := true, laidKinds := [.sentinel, .sentinel, .sentinel, .sentinel, .sentinel, .sentinel, .sentinel, .sentinel, .sentinel, .sentinel, .sentinel, .sentinel, .sentinel, .sentinel, .sentinel, .sentinel, .sentinel, .sentinel, .data], laidTests := true, laidLooks := .later }
def AttrParsesUptoCardSaid : Prop := Claim7.holds Tryd.pinned (.plain (OpenSpec.upto attrParsesSpec)) attrParsesUptoCard

/-- THE SECOND FORM's CARD OF 'millwrightlaw18.AttrTexts'. -/
def attrTextsUptoCard : Claim7 := { stood := { row := attrTextsUptoRow, standIns := [], harness := (true, "446fdc15bd45f08ba96b163dcca416c86098b1fe41d429c66962e0e491512e57"), looks := true }, kinds := [], alts := [], laidByText := true, laidKinds := [.sentinel, .sentinel, .data], laidTests := true, laidLooks := .later }
def AttrTextsUptoCardSaid : Prop := Claim7.holds Tryd.pinned (.plain (OpenSpec.upto attrTextsSpec)) attrTextsUptoCard

/-- THE SECOND FORM's CARD OF 'millwrightlaw18.AttrMerges'. -/
def attrMergesUptoCard : Claim7 := { stood := { row := attrMergesUptoRow, standIns := [], harness := (true, "446fdc15bd45f08ba96b163dcca416c86098b1fe41d429c66962e0e491512e57"), looks := true }, kinds := [], alts := [], laidByText := true, laidKinds := [.sentinel, .sentinel, .data], laidTests := true, laidLooks := .later }
def AttrMergesUptoCardSaid : Prop := Claim7.holds Tryd.pinned (.plain (OpenSpec.upto attrMergesSpec)) attrMergesUptoCard
end Rows
end Go.Proofs.YtongclfpidnibaaDoor
