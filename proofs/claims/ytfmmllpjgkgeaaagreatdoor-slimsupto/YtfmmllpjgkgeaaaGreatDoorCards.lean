/-
  DERIVED. GIVEN WITH THE SEED: THE CARDS: each row of YtfmmllpjgkgeaaaGreatDoorRows.lean that lists a variable, with what it lists TIED to the program's text (the seventh form; the later family's looks); each row that meets fmt, with fmt's text TOLD by the authors' own Lean function (tested against real Go, not proved from fmt's source: count such statements apart). THE CARD IS WHAT COUNTS. Prove the row's statement (the work); the ties are given (YtfmmllpjgkgeaaaGreatDoorTie.lean); close each card by the builder's one call (the guide's Derived/Test/ToyasCard.lean, 'card_holds'). Laid BY PROGRAM, IN A SANDBOX (cutbox-door.mjs). By AI agents, Wed Nov 11 2026. No macro, syntax, notation, axiom, sorry.
-/
import Derived.Test.YtfmmllpjgkgeaaaGreatDoorRows
import GoSem.ClaimSeven
namespace Go.Proofs.YtfmmllpjgkgeaaaGreatDoor
namespace Rows

/-- THE TIED CARD OF 'thicketlaw.Values'. -/
def valuesCard : Claim7 := { stood := { row := valuesRow, standIns := [], harness := (true, "cde94aec5c0279d73fe0f1893965399ed7c2fc98cd9e58048b26f30e95a642ef"), looks := true }, kinds := [], alts := [], laidByText := true, laidKinds := [.data, .data, .data, .data, .sentinel, .sentinel, .pinned], laidTests := true, laidLooks := .later }
def ValuesCardSaid : Prop := Claim7.holds Tryz.pinned (.plain (OpenSpec.ofChange valuesSpec)) valuesCard

/-- THE TIED CARD OF 'thicketlaw.Meets'. -/
def meetsCard : Claim7 := { stood := { row := meetsRow, standIns := [], harness := (true, "cde94aec5c0279d73fe0f1893965399ed7c2fc98cd9e58048b26f30e95a642ef"), looks := true }, kinds := [], alts := [], laidByText := true, laidKinds := [.data, .data, .data, .data, .sentinel, .sentinel, .pinned], laidTests := true, laidLooks := .later }
def MeetsCardSaid : Prop := Claim7.holds Tryz.pinned (.plain (OpenSpec.ofChange meetsSpec)) meetsCard

/-- THE TIED CARD OF 'thicketlaw.Slims'. -/
def slimsCard : Claim7 := { stood := { row := slimsRow, standIns := [], harness := (true, "cde94aec5c0279d73fe0f1893965399ed7c2fc98cd9e58048b26f30e95a642ef"), looks := true }, kinds := [], alts := [], laidByText := true, laidKinds := [.data, .data, .data, .data, .sentinel, .sentinel, .pinned], laidTests := true, laidLooks := .later }
def SlimsCardSaid : Prop := Claim7.holds Tryz.pinned (.plain (OpenSpec.ofChange slimsSpec)) slimsCard

/-- THE TIED CARD OF 'thicketkeep.Converged'. -/
def convergedCard : Claim7 := { stood := { row := convergedRow, standIns := [], harness := (true, "cde94aec5c0279d73fe0f1893965399ed7c2fc98cd9e58048b26f30e95a642ef"), looks := true }, kinds := [], alts := [], laidByText := true, laidKinds := [.data, .data, .data, .data, .sentinel, .sentinel, .pinned], laidTests := true, laidLooks := .later }
def ConvergedCardSaid : Prop := Claim7.holds Tryz.pinned (.plain (OpenSpec.ofChange convergedSpec)) convergedCard

/-- THE TIED CARD OF 'thicketkeep.Grown'. -/
def grownCard : Claim7 := { stood := { row := grownRow, standIns := [], harness := (true, "cde94aec5c0279d73fe0f1893965399ed7c2fc98cd9e58048b26f30e95a642ef"), looks := true }, kinds := [], alts := [], laidByText := true, laidKinds := [.data, .data, .data, .data, .sentinel, .sentinel, .pinned], laidTests := true, laidLooks := .later }
def GrownCardSaid : Prop := Claim7.holds Tryz.pinned (.plain (OpenSpec.ofChange grownSpec)) grownCard

/-- THE TIED CARD OF 'thicketkeep.Won'. -/
def wonCard : Claim7 := { stood := { row := wonRow, standIns := [], harness := (true, "cde94aec5c0279d73fe0f1893965399ed7c2fc98cd9e58048b26f30e95a642ef"), looks := true }, kinds := [], alts := [], laidByText := true, laidKinds := [.data, .data, .data, .data, .sentinel, .sentinel, .pinned], laidTests := true, laidLooks := .later }
def WonCardSaid : Prop := Claim7.holds Tryz.pinned (.plain (OpenSpec.ofChange wonSpec)) wonCard

/-- THE TIED CARD OF 'thicketkeep.Counted'. -/
def countedCard : Claim7 := { stood := { row := countedRow, standIns := [], harness := (true, "cde94aec5c0279d73fe0f1893965399ed7c2fc98cd9e58048b26f30e95a642ef"), looks := true }, kinds := [], alts := [], laidByText := true, laidKinds := [.data, .data, .data, .data, .sentinel, .sentinel, .pinned], laidTests := true, laidLooks := .later }
def CountedCardSaid : Prop := Claim7.holds Tryz.pinned (.plain (OpenSpec.ofChange countedSpec)) countedCard

/-- THE TIED CARD OF 'thicketkeep.Spoilt'. -/
def spoiltCard : Claim7 := { stood := { row := spoiltRow, standIns := [], harness := (true, "cde94aec5c0279d73fe0f1893965399ed7c2fc98cd9e58048b26f30e95a642ef"), looks := true }, kinds := [], alts := [], laidByText := true, laidKinds := [.data, .data, .data, .data, .sentinel, .sentinel, .pinned], laidTests := true, laidLooks := .later }
def SpoiltCardSaid : Prop := Claim7.holds Tryz.pinned (.plain (OpenSpec.ofChange spoiltSpec)) spoiltCard

/-- THE TIED CARD OF 'thicketkeep.Again'. -/
def againCard : Claim7 := { stood := { row := againRow, standIns := [], harness := (true, "cde94aec5c0279d73fe0f1893965399ed7c2fc98cd9e58048b26f30e95a642ef"), looks := true }, kinds := [], alts := [], laidByText := true, laidKinds := [.data, .data, .data, .data, .sentinel, .sentinel, .pinned], laidTests := true, laidLooks := .later }
def AgainCardSaid : Prop := Claim7.holds Tryz.pinned (.plain (OpenSpec.ofChange againSpec)) againCard

/-- THE TIED CARD OF 'thicketkeep.Torn'. -/
def tornCard : Claim7 := { stood := { row := tornRow, standIns := [], harness := (true, "cde94aec5c0279d73fe0f1893965399ed7c2fc98cd9e58048b26f30e95a642ef"), looks := true }, kinds := [], alts := [], laidByText := true, laidKinds := [.data, .data, .data, .data, .sentinel, .sentinel, .pinned], laidTests := true, laidLooks := .later }
def TornCardSaid : Prop := Claim7.holds Tryz.pinned (.plain (OpenSpec.ofChange tornSpec)) tornCard

/-- THE TIED CARD OF 'thicketkeep.Slim'. -/
def slimCard : Claim7 := { stood := { row := slimRow, standIns := [], harness := (true, "cde94aec5c0279d73fe0f1893965399ed7c2fc98cd9e58048b26f30e95a642ef"), looks := true }, kinds := [], alts := [], laidByText := true, laidKinds := [.data, .data, .data, .data, .sentinel, .sentinel, .pinned], laidTests := true, laidLooks := .later }
def SlimCardSaid : Prop := Claim7.holds Tryz.pinned (.plain (OpenSpec.ofChange slimSpec)) slimCard

/-- THE TIED CARD OF 'thicketkeep.Renamed'. -/
def renamedCard : Claim7 := { stood := { row := renamedRow, standIns := [], harness := (true, "cde94aec5c0279d73fe0f1893965399ed7c2fc98cd9e58048b26f30e95a642ef"), looks := true }, kinds := [], alts := [], laidByText := true, laidKinds := [.data, .data, .data, .data, .sentinel, .sentinel, .pinned], laidTests := true, laidLooks := .later }
def RenamedCardSaid : Prop := Claim7.holds Tryz.pinned (.plain (OpenSpec.ofChange renamedSpec)) renamedCard

/-- THE SECOND FORM's CARD OF 'thicketlaw.Values'. -/
def valuesUptoCard : Claim7 := { stood := { row := valuesUptoRow, standIns := [], harness := (true, "cde94aec5c0279d73fe0f1893965399ed7c2fc98cd9e58048b26f30e95a642ef"), looks := true }, kinds := [], alts := [], laidByText := true, laidKinds := [.data, .data, .data, .data, .sentinel, .sentinel, .pinned], laidTests := true, laidLooks := .later }
def ValuesUptoCardSaid : Prop := Claim7.holds Tryz.pinned (.plain (OpenSpec.upto valuesSpec)) valuesUptoCard

/-- THE SECOND FORM's CARD OF 'thicketlaw.Meets'. -/
def meetsUptoCard : Claim7 := { stood := { row := meetsUptoRow, standIns := [], harness := (true, "cde94aec5c0279d73fe0f1893965399ed7c2fc98cd9e58048b26f30e95a642ef"), looks := true }, kinds := [], alts := [], laidByText := true, laidKinds := [.data, .data, .data, .data, .sentinel, .sentinel, .pinned], laidTests := true, laidLooks := .later }
def MeetsUptoCardSaid : Prop := Claim7.holds Tryz.pinned (.plain (OpenSpec.upto meetsSpec)) meetsUptoCard

/-- THE SECOND FORM's CARD OF 'thicketlaw.Slims'. -/
def slimsUptoCard : Claim7 := { stood := { row := slimsUptoRow, standIns := [], harness := (true, "cde94aec5c0279d73fe0f1893965399ed7c2fc98cd9e58048b26f30e95a642ef"), looks := true }, kinds := [], alts := [], laidByText := true, laidKinds := [.data, .data, .data, .data, .sentinel, .sentinel, .pinned], laidTests := true, laidLooks := .later }
def SlimsUptoCardSaid : Prop := Claim7.holds Tryz.pinned (.plain (OpenSpec.upto slimsSpec)) slimsUptoCard

/-- THE SECOND FORM's CARD OF 'thicketkeep.Converged'. -/
def convergedUptoCard : Claim7 := { stood := { row := convergedUptoRow, standIns := [], harness := (true, "cde94aec5c0279d73fe0f1893965399ed7c2fc98cd9e58048b26f30e95a642ef"), looks := true }, kinds := [], alts := [], laidByText := true, laidKinds := [.data, .data, .data, .data, .sentinel, .sentinel, .pinned], laidTests := true, laidLooks := .later }
def ConvergedUptoCardSaid : Prop := Claim7.holds Tryz.pinned (.plain (OpenSpec.upto convergedSpec)) convergedUptoCard

/-- THE SECOND FORM's CARD OF 'thicketkeep.Grown'. -/
def grownUptoCard : Claim7 := { stood := { row := grownUptoRow, standIns := [], harness := (true, "cde94aec5c0279d73fe0f1893965399ed7c2fc98cd9e58048b26f30e95a642ef"), looks := true }, kinds := [], alts := [], laidByText := true, laidKinds := [.data, .data, .data, .data, .sentinel, .sentinel, .pinned], laidTests := true, laidLooks := .later }
def GrownUptoCardSaid : Prop := Claim7.holds Tryz.pinned (.plain (OpenSpec.upto grownSpec)) grownUptoCard

/-- THE SECOND FORM's CARD OF 'thicketkeep.Won'. -/
def wonUptoCard : Claim7 := { stood := { row := wonUptoRow, standIns := [], harness := (true, "cde94aec5c0279d73fe0f1893965399ed7c2fc98cd9e58048b26f30e95a642ef"), looks := true }, kinds := [], alts := [], laidByText := true, laidKinds := [.data, .data, .data, .data, .sentinel, .sentinel, .pinned], laidTests := true, laidLooks := .later }
def WonUptoCardSaid : Prop := Claim7.holds Tryz.pinned (.plain (OpenSpec.upto wonSpec)) wonUptoCard

/-- THE SECOND FORM's CARD OF 'thicketkeep.Counted'. -/
def countedUptoCard : Claim7 := { stood := { row := countedUptoRow, standIns := [], harness := (true, "cde94aec5c0279d73fe0f1893965399ed7c2fc98cd9e58048b26f30e95a642ef"), looks := true }, kinds := [], alts := [], laidByText := true, laidKinds := [.data, .data, .data, .data, .sentinel, .sentinel, .pinned], laidTests := true, laidLooks := .later }
def CountedUptoCardSaid : Prop := Claim7.holds Tryz.pinned (.plain (OpenSpec.upto countedSpec)) countedUptoCard

/-- THE SECOND FORM's CARD OF 'thicketkeep.Spoilt'. -/
def spoiltUptoCard : Claim7 := { stood := { row := spoiltUptoRow, standIns := [], harness := (true, "cde94aec5c0279d73fe0f1893965399ed7c2fc98cd9e58048b26f30e95a642ef"), looks := true }, kinds := [], alts := [], laidByText := true, laidKinds := [.data, .data, .data, .data, .sentinel, .sentinel, .pinned], laidTests := true, laidLooks := .later }
def SpoiltUptoCardSaid : Prop := Claim7.holds Tryz.pinned (.plain (OpenSpec.upto spoiltSpec)) spoiltUptoCard

/-- THE SECOND FORM's CARD OF 'thicketkeep.Again'. -/
def againUptoCard : Claim7 := { stood := { row := againUptoRow, standIns := [], harness := (true, "cde94aec5c0279d73fe0f1893965399ed7c2fc98cd9e58048b26f30e95a642ef"), looks := true }, kinds := [], alts := [], laidByText := true, laidKinds := [.data, .data, .data, .data, .sentinel, .sentinel, .pinned], laidTests := true, laidLooks := .later }
def AgainUptoCardSaid : Prop := Claim7.holds Tryz.pinned (.plain (OpenSpec.upto againSpec)) againUptoCard

/-- THE SECOND FORM's CARD OF 'thicketkeep.Torn'. -/
def tornUptoCard : Claim7 := { stood := { row := tornUptoRow, standIns := [], harness := (true, "cde94aec5c0279d73fe0f1893965399ed7c2fc98cd9e58048b26f30e95a642ef"), looks := true }, kinds := [], alts := [], laidByText := true, laidKinds := [.data, .data, .data, .data, .sentinel, .sentinel, .pinned], laidTests := true, laidLooks := .later }
def TornUptoCardSaid : Prop := Claim7.holds Tryz.pinned (.plain (OpenSpec.upto tornSpec)) tornUptoCard

/-- THE SECOND FORM's CARD OF 'thicketkeep.Slim'. -/
def slimUptoCard : Claim7 := { stood := { row := slimUptoRow, standIns := [], harness := (true, "cde94aec5c0279d73fe0f1893965399ed7c2fc98cd9e58048b26f30e95a642ef"), looks := true }, kinds := [], alts := [], laidByText := true, laidKinds := [.data, .data, .data, .data, .sentinel, .sentinel, .pinned], laidTests := true, laidLooks := .later }
def SlimUptoCardSaid : Prop := Claim7.holds Tryz.pinned (.plain (OpenSpec.upto slimSpec)) slimUptoCard

/-- THE SECOND FORM's CARD OF 'thicketkeep.Renamed'. -/
def renamedUptoCard : Claim7 := { stood := { row := renamedUptoRow, standIns := [], harness := (true, "cde94aec5c0279d73fe0f1893965399ed7c2fc98cd9e58048b26f30e95a642ef"), looks := true }, kinds := [], alts := [], laidByText := true, laidKinds := [.data, .data, .data, .data, .sentinel, .sentinel, .pinned], laidTests := true, laidLooks := .later }
def RenamedUptoCardSaid : Prop := Claim7.holds Tryz.pinned (.plain (OpenSpec.upto renamedSpec)) renamedUptoCard
end Rows
end Go.Proofs.YtfmmllpjgkgeaaaGreatDoor
