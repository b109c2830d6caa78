/-
  DERIVED. GIVEN WITH THE SEED: THE CARDS: each row of YtjpphjmehgflpaaGreatDoorRows.lean that lists a variable, with what it lists TIED to the program's text (the seventh form; the later family's looks); each row that meets fmt, with fmt's text TOLD by the authors' own Lean function (tested against real Go, not proved from fmt's source: count such statements apart). THE CARD IS WHAT COUNTS. Prove the row's statement (the work); the ties are given (YtjpphjmehgflpaaGreatDoorTie.lean); close each card by the builder's one call (the guide's Derived/Test/ToyasCard.lean, 'card_holds'). Laid BY PROGRAM, IN A SANDBOX (cutbox-door.mjs). By AI agents, Wed Nov 11 2026. No macro, syntax, notation, axiom, sorry.
-/
import Derived.Test.YtjpphjmehgflpaaGreatDoorRows
import GoSem.ClaimSeven
namespace Go.Proofs.YtjpphjmehgflpaaGreatDoor
namespace Rows

/-- THE TIED CARD OF 'parrylaw7.ShowForms'. -/
def showFormsCard : Claim7 := { stood := { row := showFormsRow, standIns := [], harness := (true, "69b95e21f3dac67d3a8051a4a0e6ee5c795b1e4e28407f00da7ae3427e7aee9b"), looks := false }, kinds := [], alts := [], laidByText := true, laidKinds := [.data, .data, .data], laidTests := true, laidLooks := .later }
def ShowFormsCardSaid : Prop := Claim7.holds Tryz.pinned (.plain (OpenSpec.ofChange showFormsSpec)) showFormsCard

/-- THE SECOND FORM's CARD OF 'parrylaw7.ShowForms'. -/
def showFormsUptoCard : Claim7 := { stood := { row := showFormsUptoRow, standIns := [], harness := (true, "69b95e21f3dac67d3a8051a4a0e6ee5c795b1e4e28407f00da7ae3427e7aee9b"), looks := false }, kinds := [], alts := [], laidByText := true, laidKinds := [.data, .data, .data], laidTests := true, laidLooks := .later }
def ShowFormsUptoCardSaid : Prop := Claim7.holds Tryz.pinned (.plain (OpenSpec.upto showFormsSpec)) showFormsUptoCard
end Rows
end Go.Proofs.YtjpphjmehgflpaaGreatDoor
