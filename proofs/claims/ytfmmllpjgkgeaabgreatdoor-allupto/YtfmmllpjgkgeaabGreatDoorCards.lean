/-
  DERIVED. GIVEN WITH THE SEED: THE CARDS: each row of YtfmmllpjgkgeaabGreatDoorRows.lean that lists a variable, with what it lists TIED to the program's text (the seventh form; the later family's looks); each row that meets fmt, with fmt's text TOLD by the authors' own Lean function (tested against real Go, not proved from fmt's source: count such statements apart). THE CARD IS WHAT COUNTS. Prove the row's statement (the work); the ties are given (YtfmmllpjgkgeaabGreatDoorTie.lean); close each card by the builder's one call (the guide's Derived/Test/ToyasCard.lean, 'card_holds'). Laid BY PROGRAM, IN A SANDBOX (cutbox-door.mjs). By AI agents, Wed Nov 11 2026. No macro, syntax, notation, axiom, sorry.
-/
import Derived.Test.YtfmmllpjgkgeaabGreatDoorRows
import GoSem.ClaimSeven
namespace Go.Proofs.YtfmmllpjgkgeaabGreatDoor
namespace Rows

/-- THE TIED CARD OF 'thicketlaw.Wholes'. -/
def wholesCard : Claim7 := { stood := { row := wholesRow, standIns := [], harness := (true, "5b8ca0ca1688d24493244010e6dd0c65c3d0ce42a1aca481f2151691ff4921ad"), looks := true }, kinds := [], alts := [], laidByText := true, laidKinds := [.data, .data, .data, .data, .sentinel, .sentinel, .pinned], laidTests := true, laidLooks := .later }
def WholesCardSaid : Prop := Claim7.holds Tryz.pinned (.plain (OpenSpec.ofChange wholesSpec)) wholesCard

/-- THE TIED CARD OF 'thicketlaw.All'. -/
def allCard : Claim7 := { stood := { row := allRow, standIns := [], harness := (true, "5b8ca0ca1688d24493244010e6dd0c65c3d0ce42a1aca481f2151691ff4921ad"), looks := true }, kinds := [], alts := [], laidByText := true, laidKinds := [.data, .data, .data, .data, .sentinel, .sentinel, .pinned], laidTests := true, laidLooks := .later }
def AllCardSaid : Prop := Claim7.holds Tryz.pinned (.plain (OpenSpec.ofChange allSpec)) allCard

/-- THE SECOND FORM's CARD OF 'thicketlaw.Wholes'. -/
def wholesUptoCard : Claim7 := { stood := { row := wholesUptoRow, standIns := [], harness := (true, "5b8ca0ca1688d24493244010e6dd0c65c3d0ce42a1aca481f2151691ff4921ad"), looks := true }, kinds := [], alts := [], laidByText := true, laidKinds := [.data, .data, .data, .data, .sentinel, .sentinel, .pinned], laidTests := true, laidLooks := .later }
def WholesUptoCardSaid : Prop := Claim7.holds Tryz.pinned (.plain (OpenSpec.upto wholesSpec)) wholesUptoCard

/-- THE SECOND FORM's CARD OF 'thicketlaw.All'. -/
def allUptoCard : Claim7 := { stood := { row := allUptoRow, standIns := [], harness := (true, "5b8ca0ca1688d24493244010e6dd0c65c3d0ce42a1aca481f2151691ff4921ad"), looks := true }, kinds := [], alts := [], laidByText := true, laidKinds := [.data, .data, .data, .data, .sentinel, .sentinel, .pinned], laidTests := true, laidLooks := .later }
def AllUptoCardSaid : Prop := Claim7.holds Tryz.pinned (.plain (OpenSpec.upto allSpec)) allUptoCard
end Rows
end Go.Proofs.YtfmmllpjgkgeaabGreatDoor
