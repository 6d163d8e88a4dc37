/-
  DERIVED. GIVEN WITH THE SEED: THE CARDS: each row of YtibciicpgjgjbaaDoorRows.lean that lists a variable, with what it lists TIED to the program's text (the seventh form; the later family's looks); each row that meets fmt, with fmt's text TOLD by the authors' own Lean function (tested against real Go, not proved from fmt's source: count such statements apart). THE CARD IS WHAT COUNTS. Prove the row's statement (the work); the ties are given (YtibciicpgjgjbaaDoorTie.lean); close each card by the builder's one call (the guide's Derived/Test/ToyasCard.lean, 'card_holds'). Laid BY PROGRAM, IN A SANDBOX (cutbox-door.mjs). By AI agents, Wed Nov 11 2026. No macro, syntax, notation, axiom, sorry.
-/
import Derived.Test.YtibciicpgjgjbaaDoorRows
import GoSem.ClaimSeven
namespace Go.Proofs.YtibciicpgjgjbaaDoor
namespace Rows

/-- THE TIED CARD OF 'bonsailaw3.OpTells'. -/
def opTellsCard : Claim7 := { stood := { row := opTellsRow, standIns := [], harness := (true, "0860b54c26a3ce91e628ea6b822aadd34f678578f18b5323b32119eed2cb8e62"), looks := false }, kinds := [], alts := [], laidByText := true, laidKinds := [.data], laidTests := true, laidLooks := .later }
def OpTellsCardSaid : Prop := Claim7.holds Tryd.pinned (.plain (OpenSpec.ofChange opTellsSpec)) opTellsCard

/-- THE TIED CARD OF 'bonsailaw3.OpRight'. -/
def opRightCard : Claim7 := { stood := { row := opRightRow, standIns := [], harness := (true, "0860b54c26a3ce91e628ea6b822aadd34f678578f18b5323b32119eed2cb8e62"), looks := false }, kinds := [], alts := [], laidByText := true, laidKinds := [.data], laidTests := true, laidLooks := .later }
def OpRightCardSaid : Prop := Claim7.holds Tryd.pinned (.plain (OpenSpec.ofChange opRightSpec)) opRightCard

/-- THE TIED CARD OF 'bonsailaw3.OpNames'. -/
def opNamesCard : Claim7 := { stood := { row := opNamesRow, standIns := [], harness := (true, "0860b54c26a3ce91e628ea6b822aadd34f678578f18b5323b32119eed2cb8e62"), looks := false }, kinds := [], alts := [], laidByText := true, laidKinds := [.data], laidTests := true, laidLooks := .later }
def OpNamesCardSaid : Prop := Claim7.holds Tryd.pinned (.plain (OpenSpec.ofChange opNamesSpec)) opNamesCard

/-- THE TIED CARD OF 'bonsailaw3.OpUses'. -/
def opUsesCard : Claim7 := { stood := { row := opUsesRow, standIns := [], harness := (true, "0860b54c26a3ce91e628ea6b822aadd34f678578f18b5323b32119eed2cb8e62"), looks := false }, kinds := [], alts := [], laidByText := true, laidKinds := [.data], laidTests := true, laidLooks := .later }
def OpUsesCardSaid : Prop := Claim7.holds Tryd.pinned (.plain (OpenSpec.ofChange opUsesSpec)) opUsesCard

/-- THE SECOND FORM's CARD OF 'bonsailaw3.OpTells'. -/
def opTellsUptoCard : Claim7 := { stood := { row := opTellsUptoRow, standIns := [], harness := (true, "0860b54c26a3ce91e628ea6b822aadd34f678578f18b5323b32119eed2cb8e62"), looks := false }, kinds := [], alts := [], laidByText := true, laidKinds := [.data], laidTests := true, laidLooks := .later }
def OpTellsUptoCardSaid : Prop := Claim7.holds Tryd.pinned (.plain (OpenSpec.upto opTellsSpec)) opTellsUptoCard

/-- THE SECOND FORM's CARD OF 'bonsailaw3.OpRight'. -/
def opRightUptoCard : Claim7 := { stood := { row := opRightUptoRow, standIns := [], harness := (true, "0860b54c26a3ce91e628ea6b822aadd34f678578f18b5323b32119eed2cb8e62"), looks := false }, kinds := [], alts := [], laidByText := true, laidKinds := [.data], laidTests := true, laidLooks := .later }
def OpRightUptoCardSaid : Prop := Claim7.holds Tryd.pinned (.plain (OpenSpec.upto opRightSpec)) opRightUptoCard

/-- THE SECOND FORM's CARD OF 'bonsailaw3.OpNames'. -/
def opNamesUptoCard : Claim7 := { stood := { row := opNamesUptoRow, standIns := [], harness := (true, "0860b54c26a3ce91e628ea6b822aadd34f678578f18b5323b32119eed2cb8e62"), looks := false }, kinds := [], alts := [], laidByText := true, laidKinds := [.data], laidTests := true, laidLooks := .later }
def OpNamesUptoCardSaid : Prop := Claim7.holds Tryd.pinned (.plain (OpenSpec.upto opNamesSpec)) opNamesUptoCard

/-- THE SECOND FORM's CARD OF 'bonsailaw3.OpUses'. -/
def opUsesUptoCard : Claim7 := { stood := { row := opUsesUptoRow, standIns := [], harness := (true, "0860b54c26a3ce91e628ea6b822aadd34f678578f18b5323b32119eed2cb8e62"), looks := false }, kinds := [], alts := [], laidByText := true, laidKinds := [.data], laidTests := true, laidLooks := .later }
def OpUsesUptoCardSaid : Prop := Claim7.holds Tryd.pinned (.plain (OpenSpec.upto opUsesSpec)) opUsesUptoCard
end Rows
end Go.Proofs.YtibciicpgjgjbaaDoor
