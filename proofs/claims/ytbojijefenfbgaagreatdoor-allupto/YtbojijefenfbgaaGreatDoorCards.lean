/-
  DERIVED. GIVEN WITH THE SEED: THE CARDS: each row of YtbojijefenfbgaaGreatDoorRows.lean that lists a variable, with what it lists TIED to the program's text (the seventh form; the later family's looks); each row that meets fmt, with fmt's text TOLD by the authors' own Lean function (tested against real Go, not proved from fmt's source: count such statements apart). THE CARD IS WHAT COUNTS. Prove the row's statement (the work); the ties are given (YtbojijefenfbgaaGreatDoorTie.lean); close each card by the builder's one call (the guide's Derived/Test/ToyasCard.lean, 'card_holds'). Laid BY PROGRAM, IN A SANDBOX (cutbox-door.mjs). By AI agents, Wed Nov 11 2026. No macro, syntax, notation, axiom, sorry.
-/
import Derived.Test.YtbojijefenfbgaaGreatDoorRows
import GoSem.ClaimSeven
namespace Go.Proofs.YtbojijefenfbgaaGreatDoor
namespace Rows

/-- THE TIED CARD OF 'posternlaw.Rights'. -/
def rightsCard : Claim7 := { stood := { row := rightsRow, standIns := [], harness := (true, "8169f78751686a46a4e5448e96568acf274fe63c514f1493ca154dfef54a7b32"), looks := false }, kinds := [], alts := [], goes := true, laidByText := true, laidKinds := [.data], laidTests := true, laidLooks := .later }
def RightsCardSaid : Prop := Claim7.holds Tryz.pinned (.plain (OpenSpec.ofChange rightsSpec)) rightsCard

/-- THE TIED CARD OF 'posternlaw.Tickets'. -/
def ticketsCard : Claim7 := { stood := { row := ticketsRow, standIns := [], harness := (true, "8169f78751686a46a4e5448e96568acf274fe63c514f1493ca154dfef54a7b32"), looks := false }, kinds := [], alts := [], laidByText := true, laidKinds := [.data], laidTests := true, laidLooks := .later }
def TicketsCardSaid : Prop := Claim7.holds Tryz.pinned (.plain (OpenSpec.ofChange ticketsSpec)) ticketsCard

/-- THE TIED CARD OF 'posternlaw.Gates'. -/
def gatesCard : Claim7 := { stood := { row := gatesRow, standIns := [], harness := (true, "8169f78751686a46a4e5448e96568acf274fe63c514f1493ca154dfef54a7b32"), looks := false }, kinds := [], alts := [], goes := true, laidByText := true, laidKinds := [.data], laidTests := true, laidLooks := .later }
def GatesCardSaid : Prop := Claim7.holds Tryz.pinned (.plain (OpenSpec.ofChange gatesSpec)) gatesCard

/-- THE TIED CARD OF 'posternlaw.All'. -/
def allCard : Claim7 := { stood := { row := allRow, standIns := [], harness := (true, "8169f78751686a46a4e5448e96568acf274fe63c514f1493ca154dfef54a7b32"), looks := false }, kinds := [], alts := [], goes := true, laidByText := true, laidKinds := [.data], laidTests := true, laidLooks := .later }
def AllCardSaid : Prop := Claim7.holds Tryz.pinned (.plain (OpenSpec.ofChange allSpec)) allCard

/-- THE TIED CARD OF 'posternkeep.Met'. -/
def metCard : Claim7 := { stood := { row := metRow, standIns := [], harness := (true, "8169f78751686a46a4e5448e96568acf274fe63c514f1493ca154dfef54a7b32"), looks := false }, kinds := [], alts := [], goes := true, laidByText := true, laidKinds := [.data], laidTests := true, laidLooks := .later }
def MetCardSaid : Prop := Claim7.holds Tryz.pinned (.plain (OpenSpec.ofChange metSpec)) metCard

/-- THE TIED CARD OF 'posternkeep.Found'. -/
def foundCard : Claim7 := { stood := { row := foundRow, standIns := [], harness := (true, "8169f78751686a46a4e5448e96568acf274fe63c514f1493ca154dfef54a7b32"), looks := false }, kinds := [], alts := [], goes := true, laidByText := true, laidKinds := [.data], laidTests := true, laidLooks := .later }
def FoundCardSaid : Prop := Claim7.holds Tryz.pinned (.plain (OpenSpec.ofChange foundSpec)) foundCard

/-- THE TIED CARD OF 'posternkeep.Turned'. -/
def turnedCard : Claim7 := { stood := { row := turnedRow, standIns := [], harness := (true, "8169f78751686a46a4e5448e96568acf274fe63c514f1493ca154dfef54a7b32"), looks := false }, kinds := [], alts := [], goes := true, laidByText := true, laidKinds := [.data], laidTests := true, laidLooks := .later }
def TurnedCardSaid : Prop := Claim7.holds Tryz.pinned (.plain (OpenSpec.ofChange turnedSpec)) turnedCard

/-- THE SECOND FORM's CARD OF 'posternlaw.Rights'. -/
def rightsUptoCard : Claim7 := { stood := { row := rightsUptoRow, standIns := [], harness := (true, "8169f78751686a46a4e5448e96568acf274fe63c514f1493ca154dfef54a7b32"), looks := false }, kinds := [], alts := [], goes := true, laidByText := true, laidKinds := [.data], laidTests := true, laidLooks := .later }
def RightsUptoCardSaid : Prop := Claim7.holds Tryz.pinned (.plain (OpenSpec.upto rightsSpec)) rightsUptoCard

/-- THE SECOND FORM's CARD OF 'posternlaw.Tickets'. -/
def ticketsUptoCard : Claim7 := { stood := { row := ticketsUptoRow, standIns := [], harness := (true, "8169f78751686a46a4e5448e96568acf274fe63c514f1493ca154dfef54a7b32"), looks := false }, kinds := [], alts := [], laidByText := true, laidKinds := [.data], laidTests := true, laidLooks := .later }
def TicketsUptoCardSaid : Prop := Claim7.holds Tryz.pinned (.plain (OpenSpec.upto ticketsSpec)) ticketsUptoCard

/-- THE SECOND FORM's CARD OF 'posternlaw.Gates'. -/
def gatesUptoCard : Claim7 := { stood := { row := gatesUptoRow, standIns := [], harness := (true, "8169f78751686a46a4e5448e96568acf274fe63c514f1493ca154dfef54a7b32"), looks := false }, kinds := [], alts := [], goes := true, laidByText := true, laidKinds := [.data], laidTests := true, laidLooks := .later }
def GatesUptoCardSaid : Prop := Claim7.holds Tryz.pinned (.plain (OpenSpec.upto gatesSpec)) gatesUptoCard

/-- THE SECOND FORM's CARD OF 'posternlaw.All'. -/
def allUptoCard : Claim7 := { stood := { row := allUptoRow, standIns := [], harness := (true, "8169f78751686a46a4e5448e96568acf274fe63c514f1493ca154dfef54a7b32"), looks := false }, kinds := [], alts := [], goes := true, laidByText := true, laidKinds := [.data], laidTests := true, laidLooks := .later }
def AllUptoCardSaid : Prop := Claim7.holds Tryz.pinned (.plain (OpenSpec.upto allSpec)) allUptoCard

/-- THE SECOND FORM's CARD OF 'posternkeep.Met'. -/
def metUptoCard : Claim7 := { stood := { row := metUptoRow, standIns := [], harness := (true, "8169f78751686a46a4e5448e96568acf274fe63c514f1493ca154dfef54a7b32"), looks := false }, kinds := [], alts := [], goes := true, laidByText := true, laidKinds := [.data], laidTests := true, laidLooks := .later }
def MetUptoCardSaid : Prop := Claim7.holds Tryz.pinned (.plain (OpenSpec.upto metSpec)) metUptoCard

/-- THE SECOND FORM's CARD OF 'posternkeep.Found'. -/
def foundUptoCard : Claim7 := { stood := { row := foundUptoRow, standIns := [], harness := (true, "8169f78751686a46a4e5448e96568acf274fe63c514f1493ca154dfef54a7b32"), looks := false }, kinds := [], alts := [], goes := true, laidByText := true, laidKinds := [.data], laidTests := true, laidLooks := .later }
def FoundUptoCardSaid : Prop := Claim7.holds Tryz.pinned (.plain (OpenSpec.upto foundSpec)) foundUptoCard

/-- THE SECOND FORM's CARD OF 'posternkeep.Turned'. -/
def turnedUptoCard : Claim7 := { stood := { row := turnedUptoRow, standIns := [], harness := (true, "8169f78751686a46a4e5448e96568acf274fe63c514f1493ca154dfef54a7b32"), looks := false }, kinds := [], alts := [], goes := true, laidByText := true, laidKinds := [.data], laidTests := true, laidLooks := .later }
def TurnedUptoCardSaid : Prop := Claim7.holds Tryz.pinned (.plain (OpenSpec.upto turnedSpec)) turnedUptoCard
end Rows
end Go.Proofs.YtbojijefenfbgaaGreatDoor
