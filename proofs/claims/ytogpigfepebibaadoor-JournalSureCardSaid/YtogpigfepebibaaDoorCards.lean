/-
  DERIVED. GIVEN WITH THE SEED: THE CARDS: each row of YtogpigfepebibaaDoorRows.lean that lists a variable, with what it lists TIED to the program's text (the seventh form; the later family's looks); each row that meets fmt, with fmt's text TOLD by the authors' own Lean function (tested against real Go, not proved from fmt's source: count such statements apart). THE CARD IS WHAT COUNTS. Prove the row's statement (the work); the ties are given (YtogpigfepebibaaDoorTie.lean); close each card by the builder's one call (the guide's Derived/Test/ToyasCard.lean, 'card_holds'). Laid BY PROGRAM, IN A SANDBOX (cutbox-door.mjs). By AI agents, Wed Nov 11 2026. No macro, syntax, notation, axiom, sorry.
-/
import Derived.Test.YtogpigfepebibaaDoorRows
import GoSem.ClaimSeven
namespace Go.Proofs.YtogpigfepebibaaDoor
namespace Rows

/-- THE TIED CARD OF 'bloomerylaw08.JournalFrames'. -/
def journalFramesCard : Claim7 := { stood := { row := journalFramesRow, standIns := [], harness := (true, "94bc360354d5bea29e2ee7e065ca6a59c4022c40490e1b307698fe96c43c654b"), looks := false }, kinds := [], alts := [], laidByText := true, laidKinds := [.data], laidTests := true, laidLooks := .later }
def JournalFramesCardSaid : Prop := Claim7.holds Tryd.pinned (.plain (OpenSpec.ofChange journalFramesSpec)) journalFramesCard

/-- THE TIED CARD OF 'bloomerylaw08.JournalScans'. -/
def journalScansCard : Claim7 := { stood := { row := journalScansRow, standIns := [], harness := (true, "94bc360354d5bea29e2ee7e065ca6a59c4022c40490e1b307698fe96c43c654b"), looks := false }, kinds := [], alts := [], laidByText := true, laidKinds := [.data], laidTests := true, laidLooks := .later }
def JournalScansCardSaid : Prop := Claim7.holds Tryd.pinned (.plain (OpenSpec.ofChange journalScansSpec)) journalScansCard

/-- THE TIED CARD OF 'bloomerylaw08.JournalTails'. -/
def journalTailsCard : Claim7 := { stood := { row := journalTailsRow, standIns := [], harness := (true, "94bc360354d5bea29e2ee7e065ca6a59c4022c40490e1b307698fe96c43c654b"), looks := false }, kinds := [], alts := [], laidByText := true, laidKinds := [.data], laidTests := true, laidLooks := .later }
def JournalTailsCardSaid : Prop := Claim7.holds Tryd.pinned (.plain (OpenSpec.ofChange journalTailsSpec)) journalTailsCard

/-- THE TIED CARD OF 'bloomerylaw08.JournalSure'. -/
def journalSureCard : Claim7 := { stood := { row := journalSureRow, standIns := [], harness := (true, "94bc360354d5bea29e2ee7e065ca6a59c4022c40490e1b307698fe96c43c654b"), looks := false }, kinds := [], alts := [], laidByText := true, laidKinds := [.data], laidTests := true, laidLooks := .later }
def JournalSureCardSaid : Prop := Claim7.holds Tryd.pinned (.plain (OpenSpec.ofChange journalSureSpec)) journalSureCard

/-- THE TIED CARD OF 'bloomerylaw08.JournalSwaps'. -/
def journalSwapsCard : Claim7 := { stood := { row := journalSwapsRow, standIns := [], harness := (true, "94bc360354d5bea29e2ee7e065ca6a59c4022c40490e1b307698fe96c43c654b"), looks := false }, kinds := [], alts := [], laidByText := true, laidKinds := [.data], laidTests := true, laidLooks := .later }
def JournalSwapsCardSaid : Prop := Claim7.holds Tryd.pinned (.plain (OpenSpec.ofChange journalSwapsSpec)) journalSwapsCard

/-- THE TIED CARD OF 'bloomerylaw08.JournalRows'. -/
def journalRowsCard : Claim7 := { stood := { row := journalRowsRow, standIns := [], harness := (true, "94bc360354d5bea29e2ee7e065ca6a59c4022c40490e1b307698fe96c43c654b"), looks := false }, kinds := [], alts := [], laidByText := true, laidKinds := [.data, .data, .data, .data], laidTests := true, laidLooks := .later }
def JournalRowsCardSaid : Prop := Claim7.holds Tryd.pinned (.plain (OpenSpec.ofChange journalRowsSpec)) journalRowsCard

/-- THE SECOND FORM's CARD OF 'bloomerylaw08.JournalFrames'. -/
def journalFramesUptoCard : Claim7 := { stood := { row := journalFramesUptoRow, standIns := [], harness := (true, "94bc360354d5bea29e2ee7e065ca6a59c4022c40490e1b307698fe96c43c654b"), looks := false }, kinds := [], alts := [], laidByText := true, laidKinds := [.data], laidTests := true, laidLooks := .later }
def JournalFramesUptoCardSaid : Prop := Claim7.holds Tryd.pinned (.plain (OpenSpec.upto journalFramesSpec)) journalFramesUptoCard

/-- THE SECOND FORM's CARD OF 'bloomerylaw08.JournalScans'. -/
def journalScansUptoCard : Claim7 := { stood := { row := journalScansUptoRow, standIns := [], harness := (true, "94bc360354d5bea29e2ee7e065ca6a59c4022c40490e1b307698fe96c43c654b"), looks := false }, kinds := [], alts := [], laidByText := true, laidKinds := [.data], laidTests := true, laidLooks := .later }
def JournalScansUptoCardSaid : Prop := Claim7.holds Tryd.pinned (.plain (OpenSpec.upto journalScansSpec)) journalScansUptoCard

/-- THE SECOND FORM's CARD OF 'bloomerylaw08.JournalTails'. -/
def journalTailsUptoCard : Claim7 := { stood := { row := journalTailsUptoRow, standIns := [], harness := (true, "94bc360354d5bea29e2ee7e065ca6a59c4022c40490e1b307698fe96c43c654b"), looks := false }, kinds := [], alts := [], laidByText := true, laidKinds := [.data], laidTests := true, laidLooks := .later }
def JournalTailsUptoCardSaid : Prop := Claim7.holds Tryd.pinned (.plain (OpenSpec.upto journalTailsSpec)) journalTailsUptoCard

/-- THE SECOND FORM's CARD OF 'bloomerylaw08.JournalSure'. -/
def journalSureUptoCard : Claim7 := { stood := { row := journalSureUptoRow, standIns := [], harness := (true, "94bc360354d5bea29e2ee7e065ca6a59c4022c40490e1b307698fe96c43c654b"), looks := false }, kinds := [], alts := [], laidByText := true, laidKinds := [.data], laidTests := true, laidLooks := .later }
def JournalSureUptoCardSaid : Prop := Claim7.holds Tryd.pinned (.plain (OpenSpec.upto journalSureSpec)) journalSureUptoCard

/-- THE SECOND FORM's CARD OF 'bloomerylaw08.JournalSwaps'. -/
def journalSwapsUptoCard : Claim7 := { stood := { row := journalSwapsUptoRow, standIns := [], harness := (true, "94bc360354d5bea29e2ee7e065ca6a59c4022c40490e1b307698fe96c43c654b"), looks := false }, kinds := [], alts := [], laidByText := true, laidKinds := [.data], laidTests := true, laidLooks := .later }
def JournalSwapsUptoCardSaid : Prop := Claim7.holds Tryd.pinned (.plain (OpenSpec.upto journalSwapsSpec)) journalSwapsUptoCard

/-- THE SECOND FORM's CARD OF 'bloomerylaw08.JournalRows'. -/
def journalRowsUptoCard : Claim7 := { stood := { row := journalRowsUptoRow, standIns := [], harness := (true, "94bc360354d5bea29e2ee7e065ca6a59c4022c40490e1b307698fe96c43c654b"), looks := false }, kinds := [], alts := [], laidByText := true, laidKinds := [.data, .data, .data, .data], laidTests := true, laidLooks := .later }
def JournalRowsUptoCardSaid : Prop := Claim7.holds Tryd.pinned (.plain (OpenSpec.upto journalRowsSpec)) journalRowsUptoCard
end Rows
end Go.Proofs.YtogpigfepebibaaDoor
