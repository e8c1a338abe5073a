/-
  DERIVED. GIVEN WITH THE SEED: THE CARDS: each row of YtbojijefenfbgaaDoorRows.lean that lists a variable, with what it lists TIED to the program's text (the seventh form; the later family's looks); each row that meets fmt, with fmt's text TOLD by the authors' own Lean function (tested against real Go, not proved from fmt's source: count such statements apart). THE CARD IS WHAT COUNTS. Prove the row's statement (the work); the ties are given (YtbojijefenfbgaaDoorTie.lean); close each card by the builder's one call (the guide's Derived/Test/ToyasCard.lean, 'card_holds'). Laid BY PROGRAM, IN A SANDBOX (cutbox-door.mjs). By AI agents, Wed Nov 11 2026. No macro, syntax, notation, axiom, sorry.
-/
import Derived.Test.YtbojijefenfbgaaDoorRows
import GoSem.ClaimSeven
namespace Go.Proofs.YtbojijefenfbgaaDoor
namespace Rows

/-- THE TIED CARD OF 'posternlaw.Hashes'. -/
def hashesCard : Claim7 := { stood := { row := hashesRow, standIns := [], harness := (true, "35d68c1c22188cc8279ea9cc78e806be2acb28e9d6d7030d217215ebbb16ad22"), looks := false }, kinds := [], alts := [], laidByText := true, laidKinds := [.data], laidTests := true, laidLooks := .later }
def HashesCardSaid : Prop := Claim7.holds Tryd.pinned (.plain (OpenSpec.ofChange hashesSpec)) hashesCard

/-- THE TIED CARD OF 'posternlaw.Keys'. -/
def keysCard : Claim7 := { stood := { row := keysRow, standIns := [], harness := (true, "35d68c1c22188cc8279ea9cc78e806be2acb28e9d6d7030d217215ebbb16ad22"), looks := false }, kinds := [], alts := [], laidByText := true, laidKinds := [.data], laidTests := true, laidLooks := .later }
def KeysCardSaid : Prop := Claim7.holds Tryd.pinned (.plain (OpenSpec.ofChange keysSpec)) keysCard

/-- THE TIED CARD OF 'posternkeep.Signed'. -/
def signedCard : Claim7 := { stood := { row := signedRow, standIns := [], harness := (true, "35d68c1c22188cc8279ea9cc78e806be2acb28e9d6d7030d217215ebbb16ad22"), looks := false }, kinds := [], alts := [], laidByText := true, laidKinds := [.data], laidTests := true, laidLooks := .later }
def SignedCardSaid : Prop := Claim7.holds Tryd.pinned (.plain (OpenSpec.ofChange signedSpec)) signedCard

/-- THE SECOND FORM's CARD OF 'posternlaw.Hashes'. -/
def hashesUptoCard : Claim7 := { stood := { row := hashesUptoRow, standIns := [], harness := (true, "35d68c1c22188cc8279ea9cc78e806be2acb28e9d6d7030d217215ebbb16ad22"), looks := false }, kinds := [], alts := [], laidByText := true, laidKinds := [.data], laidTests := true, laidLooks := .later }
def HashesUptoCardSaid : Prop := Claim7.holds Tryd.pinned (.plain (OpenSpec.upto hashesSpec)) hashesUptoCard

/-- THE SECOND FORM's CARD OF 'posternlaw.Keys'. -/
def keysUptoCard : Claim7 := { stood := { row := keysUptoRow, standIns := [], harness := (true, "35d68c1c22188cc8279ea9cc78e806be2acb28e9d6d7030d217215ebbb16ad22"), looks := false }, kinds := [], alts := [], laidByText := true, laidKinds := [.data], laidTests := true, laidLooks := .later }
def KeysUptoCardSaid : Prop := Claim7.holds Tryd.pinned (.plain (OpenSpec.upto keysSpec)) keysUptoCard

/-- THE SECOND FORM's CARD OF 'posternkeep.Signed'. -/
def signedUptoCard : Claim7 := { stood := { row := signedUptoRow, standIns := [], harness := (true, "35d68c1c22188cc8279ea9cc78e806be2acb28e9d6d7030d217215ebbb16ad22"), looks := false }, kinds := [], alts := [], laidByText := true, laidKinds := [.data], laidTests := true, laidLooks := .later }
def SignedUptoCardSaid : Prop := Claim7.holds Tryd.pinned (.plain (OpenSpec.upto signedSpec)) signedUptoCard
end Rows
end Go.Proofs.YtbojijefenfbgaaDoor
