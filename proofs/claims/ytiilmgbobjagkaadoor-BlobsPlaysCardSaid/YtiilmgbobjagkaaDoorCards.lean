/-
  DERIVED. GIVEN WITH THE SEED: THE CARDS: each row of YtiilmgbobjagkaaDoorRows.lean that lists a variable, with what it lists TIED to the program's text (the seventh form; the later family's looks); each row that meets fmt, with fmt's text TOLD by the authors' own Lean function (tested against real Go, not proved from fmt's source: count such statements apart). THE CARD IS WHAT COUNTS. Prove the row's statement (the work); the ties are given (YtiilmgbobjagkaaDoorTie.lean); close each card by the builder's one call (the guide's Derived/Test/ToyasCard.lean, 'card_holds'). Laid BY PROGRAM, IN A SANDBOX (cutbox-door.mjs). By AI agents, Wed Nov 11 2026. No macro, syntax, notation, axiom, sorry.
-/
import Derived.Test.YtiilmgbobjagkaaDoorRows
import GoSem.ClaimSeven
namespace Go.Proofs.YtiilmgbobjagkaaDoor
namespace Rows

/-- THE TIED CARD OF 'bloomerylaw06.BlobsPlays'. -/
def blobsPlaysCard : Claim7 := { stood := { row := blobsPlaysRow, standIns := [], harness := (true, "8b3b7d71bf073371e3385a688a09fcfd7bf5505317697be495c498623e60a936"), looks := false }, kinds := [], alts := [], laidByText := true, laidKinds := [.data], laidTests := true, laidLooks := .later }
def BlobsPlaysCardSaid : Prop := Claim7.holds Tryd.pinned (.plain (OpenSpec.ofChange blobsPlaysSpec)) blobsPlaysCard

/-- THE TIED CARD OF 'bloomerylaw06.BlobsChecks'. -/
def blobsChecksCard : Claim7 := { stood := { row := blobsChecksRow, standIns := [], harness := (true, "8b3b7d71bf073371e3385a688a09fcfd7bf5505317697be495c498623e60a936"), looks := false }, kinds := [], alts := [], laidByText := true, laidKinds := [.data], laidTests := true, laidLooks := .later }
def BlobsChecksCardSaid : Prop := Claim7.holds Tryd.pinned (.plain (OpenSpec.ofChange blobsChecksSpec)) blobsChecksCard

/-- THE TIED CARD OF 'bloomerylaw06.BlobsOrder'. -/
def blobsOrderCard : Claim7 := { stood := { row := blobsOrderRow, standIns := [], harness := (true, "8b3b7d71bf073371e3385a688a09fcfd7bf5505317697be495c498623e60a936"), looks := false }, kinds := [], alts := [], laidByText := true, laidKinds := [.data], laidTests := true, laidLooks := .later }
def BlobsOrderCardSaid : Prop := Claim7.holds Tryd.pinned (.plain (OpenSpec.ofChange blobsOrderSpec)) blobsOrderCard

/-- THE TIED CARD OF 'bloomerylaw06.BlobsNone'. -/
def blobsNoneCard : Claim7 := { stood := { row := blobsNoneRow, standIns := [], harness := (true, "8b3b7d71bf073371e3385a688a09fcfd7bf5505317697be495c498623e60a936"), looks := false }, kinds := [], alts := [], laidByText := true, laidKinds := [.data], laidTests := true, laidLooks := .later }
def BlobsNoneCardSaid : Prop := Claim7.holds Tryd.pinned (.plain (OpenSpec.ofChange blobsNoneSpec)) blobsNoneCard

/-- THE SECOND FORM's CARD OF 'bloomerylaw06.BlobsPlays'. -/
def blobsPlaysUptoCard : Claim7 := { stood := { row := blobsPlaysUptoRow, standIns := [], harness := (true, "8b3b7d71bf073371e3385a688a09fcfd7bf5505317697be495c498623e60a936"), looks := false }, kinds := [], alts := [], laidByText := true, laidKinds := [.data], laidTests := true, laidLooks := .later }
def BlobsPlaysUptoCardSaid : Prop := Claim7.holds Tryd.pinned (.plain (OpenSpec.upto blobsPlaysSpec)) blobsPlaysUptoCard

/-- THE SECOND FORM's CARD OF 'bloomerylaw06.BlobsChecks'. -/
def blobsChecksUptoCard : Claim7 := { stood := { row := blobsChecksUptoRow, standIns := [], harness := (true, "8b3b7d71bf073371e3385a688a09fcfd7bf5505317697be495c498623e60a936"), looks := false }, kinds := [], alts := [], laidByText := true, laidKinds := [.data], laidTests := true, laidLooks := .later }
def BlobsChecksUptoCardSaid : Prop := Claim7.holds Tryd.pinned (.plain (OpenSpec.upto blobsChecksSpec)) blobsChecksUptoCard

/-- THE SECOND FORM's CARD OF 'bloomerylaw06.BlobsOrder'. -/
def blobsOrderUptoCard : Claim7 := { stood := { row := blobsOrderUptoRow, standIns := [], harness := (true, "8b3b7d71bf073371e3385a688a09fcfd7bf5505317697be495c498623e60a936"), looks := false }, kinds := [], alts := [], laidByText := true, laidKinds := [.data], laidTests := true, laidLooks := .later }
def BlobsOrderUptoCardSaid : Prop := Claim7.holds Tryd.pinned (.plain (OpenSpec.upto blobsOrderSpec)) blobsOrderUptoCard

/-- THE SECOND FORM's CARD OF 'bloomerylaw06.BlobsNone'. -/
def blobsNoneUptoCard : Claim7 := { stood := { row := blobsNoneUptoRow, standIns := [], harness := (true, "8b3b7d71bf073371e3385a688a09fcfd7bf5505317697be495c498623e60a936"), looks := false }, kinds := [], alts := [], laidByText := true, laidKinds := [.data], laidTests := true, laidLooks := .later }
def BlobsNoneUptoCardSaid : Prop := Claim7.holds Tryd.pinned (.plain (OpenSpec.upto blobsNoneSpec)) blobsNoneUptoCard
end Rows
end Go.Proofs.YtiilmgbobjagkaaDoor
