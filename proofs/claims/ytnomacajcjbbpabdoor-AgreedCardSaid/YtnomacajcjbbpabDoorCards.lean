/-
  DERIVED. GIVEN WITH THE SEED: THE CARDS: each row of YtnomacajcjbbpabDoorRows.lean that lists a variable, with what it lists TIED to the program's text (the seventh form; the later family's looks); each row that meets fmt, with fmt's text TOLD by the authors' own Lean function (tested against real Go, not proved from fmt's source: count such statements apart). THE CARD IS WHAT COUNTS. Prove the row's statement (the work); the ties are given (YtnomacajcjbbpabDoorTie.lean); close each card by the builder's one call (the guide's Derived/Test/ToyasCard.lean, 'card_holds'). Laid BY PROGRAM, IN A SANDBOX (cutbox-door.mjs). By AI agents, Wed Nov 11 2026. No macro, syntax, notation, axiom, sorry.
-/
import Derived.Test.YtnomacajcjbbpabDoorRows
import GoSem.ClaimSeven
namespace Go.Proofs.YtnomacajcjbbpabDoor
namespace Rows

/-- THE TIED CARD OF 'chimekeep.Agreed'. -/
def agreedCard : Claim7 := { stood := { row := agreedRow, standIns := [], harness := (true, "24309ea83679d585980b65be3f59b8a37d2979e18b6c2589f8f087d9c3d047f9"), looks := true }, kinds := [], alts := [], laidByText := true, laidKinds := [.data, .data, .data, .data], laidTests := true, laidLooks := .later }
def AgreedCardSaid : Prop := Claim7.holds Tryd.pinned (.plain (OpenSpec.ofChange agreedSpec)) agreedCard

/-- THE SECOND FORM's CARD OF 'chimekeep.Agreed'. -/
def agreedUptoCard : Claim7 := { stood := { row := agreedUptoRow, standIns := [], harness := (true, "24309ea83679d585980b65be3f59b8a37d2979e18b6c2589f8f087d9c3d047f9"), looks := true }, kinds := [], alts := [], laidByText := true, laidKinds := [.data, .data, .data, .data], laidTests := true, laidLooks := .later }
def AgreedUptoCardSaid : Prop := Claim7.holds Tryd.pinned (.plain (OpenSpec.upto agreedSpec)) agreedUptoCard
end Rows
end Go.Proofs.YtnomacajcjbbpabDoor
