/-
  DERIVED. GIVEN WITH THE SEED: THE CARDS: each row of YtjdcnlggpfkopabDoorRows.lean that lists a variable, with what it lists TIED to the program's text (the seventh form; the later family's looks); each row that meets fmt, with fmt's text TOLD by the authors' own Lean function (tested against real Go, not proved from fmt's source: count such statements apart). THE CARD IS WHAT COUNTS. Prove the row's statement (the work); the ties are given (YtjdcnlggpfkopabDoorTie.lean); close each card by the builder's one call (the guide's Derived/Test/ToyasCard.lean, 'card_holds'). Laid BY PROGRAM, IN A SANDBOX (cutbox-door.mjs). By AI agents, Wed Nov 11 2026. No macro, syntax, notation, axiom, sorry.
-/
import Derived.Test.YtjdcnlggpfkopabDoorRows
import GoSem.ClaimSeven
namespace Go.Proofs.YtjdcnlggpfkopabDoor
namespace Rows

/-- THE TIED CARD OF 'chimekeep.Agreed'. -/
def agreedCard : Claim7 := { stood := { row := agreedRow, standIns := [], harness := (true, "cd2fcd32e2bf5b63462836bb76788692390c108ac5a58927f328921b9e089fdb"), looks := true }, kinds := [], alts := [], goes := true, laidByText := true, laidKinds := [.data, .data, .data, .data], laidTests := true, laidLooks := .later }
def AgreedCardSaid : Prop := Claim7.holds Tryd.pinned (.plain (OpenSpec.ofChange agreedSpec)) agreedCard

/-- THE TIED CARD OF 'chimekeep.Onward'. -/
def onwardCard : Claim7 := { stood := { row := onwardRow, standIns := [], harness := (true, "cd2fcd32e2bf5b63462836bb76788692390c108ac5a58927f328921b9e089fdb"), looks := true }, kinds := [], alts := [], goes := true, laidByText := true, laidKinds := [.data, .data, .data, .data], laidTests := true, laidLooks := .later }
def OnwardCardSaid : Prop := Claim7.holds Tryd.pinned (.plain (OpenSpec.ofChange onwardSpec)) onwardCard

/-- THE TIED CARD OF 'chimekeep.Served'. -/
def servedCard : Claim7 := { stood := { row := servedRow, standIns := [], harness := (true, "cd2fcd32e2bf5b63462836bb76788692390c108ac5a58927f328921b9e089fdb"), looks := true }, kinds := [], alts := [], goes := true, laidByText := true, laidKinds := [.data, .data, .data, .data], laidTests := true, laidLooks := .later }
def ServedCardSaid : Prop := Claim7.holds Tryd.pinned (.plain (OpenSpec.ofChange servedSpec)) servedCard

/-- THE SECOND FORM's CARD OF 'chimekeep.Agreed'. -/
def agreedUptoCard : Claim7 := { stood := { row := agreedUptoRow, standIns := [], harness := (true, "cd2fcd32e2bf5b63462836bb76788692390c108ac5a58927f328921b9e089fdb"), looks := true }, kinds := [], alts := [], goes := true, laidByText := true, laidKinds := [.data, .data, .data, .data], laidTests := true, laidLooks := .later }
def AgreedUptoCardSaid : Prop := Claim7.holds Tryd.pinned (.plain (OpenSpec.upto agreedSpec)) agreedUptoCard

/-- THE SECOND FORM's CARD OF 'chimekeep.Onward'. -/
def onwardUptoCard : Claim7 := { stood := { row := onwardUptoRow, standIns := [], harness := (true, "cd2fcd32e2bf5b63462836bb76788692390c108ac5a58927f328921b9e089fdb"), looks := true }, kinds := [], alts := [], goes := true, laidByText := true, laidKinds := [.data, .data, .data, .data], laidTests := true, laidLooks := .later }
def OnwardUptoCardSaid : Prop := Claim7.holds Tryd.pinned (.plain (OpenSpec.upto onwardSpec)) onwardUptoCard

/-- THE SECOND FORM's CARD OF 'chimekeep.Served'. -/
def servedUptoCard : Claim7 := { stood := { row := servedUptoRow, standIns := [], harness := (true, "cd2fcd32e2bf5b63462836bb76788692390c108ac5a58927f328921b9e089fdb"), looks := true }, kinds := [], alts := [], goes := true, laidByText := true, laidKinds := [.data, .data, .data, .data], laidTests := true, laidLooks := .later }
def ServedUptoCardSaid : Prop := Claim7.holds Tryd.pinned (.plain (OpenSpec.upto servedSpec)) servedUptoCard
end Rows
end Go.Proofs.YtjdcnlggpfkopabDoor
