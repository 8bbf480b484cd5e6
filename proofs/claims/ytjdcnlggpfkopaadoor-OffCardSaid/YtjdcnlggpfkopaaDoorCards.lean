/-
  DERIVED. GIVEN WITH THE SEED: THE CARDS: each row of YtjdcnlggpfkopaaDoorRows.lean that lists a variable, with what it lists TIED to the program's text (the seventh form; the later family's looks); each row that meets fmt, with fmt's text TOLD by the authors' own Lean function (tested against real Go, not proved from fmt's source: count such statements apart). THE CARD IS WHAT COUNTS. Prove the row's statement (the work); the ties are given (YtjdcnlggpfkopaaDoorTie.lean); close each card by the builder's one call (the guide's Derived/Test/ToyasCard.lean, 'card_holds'). Laid BY PROGRAM, IN A SANDBOX (cutbox-door.mjs). By AI agents, Wed Nov 11 2026. No macro, syntax, notation, axiom, sorry.
-/
import Derived.Test.YtjdcnlggpfkopaaDoorRows
import GoSem.ClaimSeven
namespace Go.Proofs.YtjdcnlggpfkopaaDoor
namespace Rows

/-- THE TIED CARD OF 'chimelaw.Texts'. -/
def textsCard : Claim7 := { stood := { row := textsRow, standIns := [], harness := (true, "9252470e2e91905227a759f52f7de9dfdba3dd2a3351a46e9d6dcc12e19cd18e"), looks := true }, kinds := [], alts := [], laidByText := true, laidKinds := [.data, .data, .data, .data], laidTests := true, laidLooks := .later }
def TextsCardSaid : Prop := Claim7.holds Tryd.pinned (.plain (OpenSpec.ofChange textsSpec)) textsCard

/-- THE TIED CARD OF 'chimekeep.Mirrors'. -/
def mirrorsCard : Claim7 := { stood := { row := mirrorsRow, standIns := [], harness := (true, "9252470e2e91905227a759f52f7de9dfdba3dd2a3351a46e9d6dcc12e19cd18e"), looks := true }, kinds := [], alts := [], laidByText := true, laidKinds := [.data, .data, .data, .data], laidTests := true, laidLooks := .later }
def MirrorsCardSaid : Prop := Claim7.holds Tryd.pinned (.plain (OpenSpec.ofChange mirrorsSpec)) mirrorsCard

/-- THE TIED CARD OF 'chimekeep.Retold'. -/
def retoldCard : Claim7 := { stood := { row := retoldRow, standIns := [], harness := (true, "9252470e2e91905227a759f52f7de9dfdba3dd2a3351a46e9d6dcc12e19cd18e"), looks := true }, kinds := [], alts := [], laidByText := true, laidKinds := [.data, .data, .data, .data], laidTests := true, laidLooks := .later }
def RetoldCardSaid : Prop := Claim7.holds Tryd.pinned (.plain (OpenSpec.ofChange retoldSpec)) retoldCard

/-- THE TIED CARD OF 'chimekeep.Off'. -/
def offCard : Claim7 := { stood := { row := offRow, standIns := [], harness := (true, "9252470e2e91905227a759f52f7de9dfdba3dd2a3351a46e9d6dcc12e19cd18e"), looks := true }, kinds := [], alts := [], laidByText := true, laidKinds := [.data, .data, .data, .data], laidTests := true, laidLooks := .later }
def OffCardSaid : Prop := Claim7.holds Tryd.pinned (.plain (OpenSpec.ofChange offSpec)) offCard

/-- THE TIED CARD OF 'chimekeep.Answered'. -/
def answeredCard : Claim7 := { stood := { row := answeredRow, standIns := [], harness := (true, "9252470e2e91905227a759f52f7de9dfdba3dd2a3351a46e9d6dcc12e19cd18e"), looks := true }, kinds := [], alts := [], laidByText := true, laidKinds := [.data, .data, .data, .data], laidTests := true, laidLooks := .later }
def AnsweredCardSaid : Prop := Claim7.holds Tryd.pinned (.plain (OpenSpec.ofChange answeredSpec)) answeredCard

/-- THE SECOND FORM's CARD OF 'chimelaw.Texts'. -/
def textsUptoCard : Claim7 := { stood := { row := textsUptoRow, standIns := [], harness := (true, "9252470e2e91905227a759f52f7de9dfdba3dd2a3351a46e9d6dcc12e19cd18e"), looks := true }, kinds := [], alts := [], laidByText := true, laidKinds := [.data, .data, .data, .data], laidTests := true, laidLooks := .later }
def TextsUptoCardSaid : Prop := Claim7.holds Tryd.pinned (.plain (OpenSpec.upto textsSpec)) textsUptoCard

/-- THE SECOND FORM's CARD OF 'chimekeep.Mirrors'. -/
def mirrorsUptoCard : Claim7 := { stood := { row := mirrorsUptoRow, standIns := [], harness := (true, "9252470e2e91905227a759f52f7de9dfdba3dd2a3351a46e9d6dcc12e19cd18e"), looks := true }, kinds := [], alts := [], laidByText := true, laidKinds := [.data, .data, .data, .data], laidTests := true, laidLooks := .later }
def MirrorsUptoCardSaid : Prop := Claim7.holds Tryd.pinned (.plain (OpenSpec.upto mirrorsSpec)) mirrorsUptoCard

/-- THE SECOND FORM's CARD OF 'chimekeep.Retold'. -/
def retoldUptoCard : Claim7 := { stood := { row := retoldUptoRow, standIns := [], harness := (true, "9252470e2e91905227a759f52f7de9dfdba3dd2a3351a46e9d6dcc12e19cd18e"), looks := true }, kinds := [], alts := [], laidByText := true, laidKinds := [.data, .data, .data, .data], laidTests := true, laidLooks := .later }
def RetoldUptoCardSaid : Prop := Claim7.holds Tryd.pinned (.plain (OpenSpec.upto retoldSpec)) retoldUptoCard

/-- THE SECOND FORM's CARD OF 'chimekeep.Off'. -/
def offUptoCard : Claim7 := { stood := { row := offUptoRow, standIns := [], harness := (true, "9252470e2e91905227a759f52f7de9dfdba3dd2a3351a46e9d6dcc12e19cd18e"), looks := true }, kinds := [], alts := [], laidByText := true, laidKinds := [.data, .data, .data, .data], laidTests := true, laidLooks := .later }
def OffUptoCardSaid : Prop := Claim7.holds Tryd.pinned (.plain (OpenSpec.upto offSpec)) offUptoCard

/-- THE SECOND FORM's CARD OF 'chimekeep.Answered'. -/
def answeredUptoCard : Claim7 := { stood := { row := answeredUptoRow, standIns := [], harness := (true, "9252470e2e91905227a759f52f7de9dfdba3dd2a3351a46e9d6dcc12e19cd18e"), looks := true }, kinds := [], alts := [], laidByText := true, laidKinds := [.data, .data, .data, .data], laidTests := true, laidLooks := .later }
def AnsweredUptoCardSaid : Prop := Claim7.holds Tryd.pinned (.plain (OpenSpec.upto answeredSpec)) answeredUptoCard
end Rows
end Go.Proofs.YtjdcnlggpfkopaaDoor
