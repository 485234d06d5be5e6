/-
  DERIVED. GIVEN WITH THE SEED: THE CARDS: each row of YtlncjgnomhpjnaaGreatDoorRows.lean that lists a variable, with what it lists TIED to the program's text (the seventh form; the later family's looks); each row that meets fmt, with fmt's text TOLD by the authors' own Lean function (tested against real Go, not proved from fmt's source: count such statements apart). THE CARD IS WHAT COUNTS. Prove the row's statement (the work); the ties are given (YtlncjgnomhpjnaaGreatDoorTie.lean); close each card by the builder's one call (the guide's Derived/Test/ToyasCard.lean, 'card_holds'). Laid BY PROGRAM, IN A SANDBOX (cutbox-door.mjs). By AI agents, Wed Nov 11 2026. No macro, syntax, notation, axiom, sorry.
-/
import Derived.Test.YtlncjgnomhpjnaaGreatDoorRows
import GoSem.ClaimSeven
namespace Go.Proofs.YtlncjgnomhpjnaaGreatDoor
namespace Rows

/-- THE TIED CARD OF 'reellaw.Frames'. -/
def framesCard : Claim7 := { stood := { row := framesRow, standIns := [], harness := (true, "1245b2654d3f0dca49f85fb40e09b84a19b2bef1ba9808a1423b7832b1dfe4c5"), looks := false }, kinds := [], alts := [], laidByText := true, laidKinds := [.data, .data, .data, .data, .data, .data], laidTests := true, laidLooks := .later }
def FramesCardSaid : Prop := Claim7.holds Tryz.pinned (.plain (OpenSpec.ofChange framesSpec)) framesCard

/-- THE TIED CARD OF 'reellaw.Unframes'. -/
def unframesCard : Claim7 := { stood := { row := unframesRow, standIns := [], harness := (true, "1245b2654d3f0dca49f85fb40e09b84a19b2bef1ba9808a1423b7832b1dfe4c5"), looks := false }, kinds := [], alts := [], laidByText := true, laidKinds := [.data, .data, .data, .data, .data, .pinned], laidTests := true, laidLooks := .later }
def UnframesCardSaid : Prop := Claim7.holds Tryz.pinned (.plain (OpenSpec.ofChange unframesSpec)) unframesCard

/-- THE TIED CARD OF 'reellaw.Encodes'. -/
def encodesCard : Claim7 := { stood := { row := encodesRow, standIns := [], harness := (true, "1245b2654d3f0dca49f85fb40e09b84a19b2bef1ba9808a1423b7832b1dfe4c5"), looks := false }, kinds := [], alts := [], laidByText := true, laidKinds := [.data, .data, .data, .data, .data, .data], laidTests := true, laidLooks := .later }
def EncodesCardSaid : Prop := Claim7.holds Tryz.pinned (.plain (OpenSpec.ofChange encodesSpec)) encodesCard

/-- THE TIED CARD OF 'reellaw.Decodes'. -/
def decodesCard : Claim7 := { stood := { row := decodesRow, standIns := [], harness := (true, "1245b2654d3f0dca49f85fb40e09b84a19b2bef1ba9808a1423b7832b1dfe4c5"), looks := false }, kinds := [], alts := [], laidByText := true, laidKinds := [.data, .data, .data, .data, .data, .pinned], laidTests := true, laidLooks := .later }
def DecodesCardSaid : Prop := Claim7.holds Tryz.pinned (.plain (OpenSpec.ofChange decodesSpec)) decodesCard

/-- THE TIED CARD OF 'reellaw.Rescues'. -/
def rescuesCard : Claim7 := { stood := { row := rescuesRow, standIns := [], harness := (true, "1245b2654d3f0dca49f85fb40e09b84a19b2bef1ba9808a1423b7832b1dfe4c5"), looks := false }, kinds := [], alts := [], laidByText := true, laidKinds := [.data, .data, .data, .data, .data, .pinned], laidTests := true, laidLooks := .later }
def RescuesCardSaid : Prop := Claim7.holds Tryz.pinned (.plain (OpenSpec.ofChange rescuesSpec)) rescuesCard

/-- THE TIED CARD OF 'reelkeep.Lossless'. -/
def losslessCard : Claim7 := { stood := { row := losslessRow, standIns := [], harness := (true, "1245b2654d3f0dca49f85fb40e09b84a19b2bef1ba9808a1423b7832b1dfe4c5"), looks := false }, kinds := [], alts := [], laidByText := true, laidKinds := [.data, .data, .data, .data, .data, .pinned], laidTests := true, laidLooks := .later }
def LosslessCardSaid : Prop := Claim7.holds Tryz.pinned (.plain (OpenSpec.ofChange losslessSpec)) losslessCard

/-- THE TIED CARD OF 'reelkeep.Spoilt'. -/
def spoiltCard : Claim7 := { stood := { row := spoiltRow, standIns := [], harness := (true, "1245b2654d3f0dca49f85fb40e09b84a19b2bef1ba9808a1423b7832b1dfe4c5"), looks := false }, kinds := [], alts := [], laidByText := true, laidKinds := [.data, .data, .data, .data, .data, .pinned], laidTests := true, laidLooks := .later }
def SpoiltCardSaid : Prop := Claim7.holds Tryz.pinned (.plain (OpenSpec.ofChange spoiltSpec)) spoiltCard

/-- THE SECOND FORM's CARD OF 'reellaw.Frames'. -/
def framesUptoCard : Claim7 := { stood := { row := framesUptoRow, standIns := [], harness := (true, "1245b2654d3f0dca49f85fb40e09b84a19b2bef1ba9808a1423b7832b1dfe4c5"), looks := false }, kinds := [], alts := [], laidByText := true, laidKinds := [.data, .data, .data, .data, .data, .data], laidTests := true, laidLooks := .later }
def FramesUptoCardSaid : Prop := Claim7.holds Tryz.pinned (.plain (OpenSpec.upto framesSpec)) framesUptoCard

/-- THE SECOND FORM's CARD OF 'reellaw.Unframes'. -/
def unframesUptoCard : Claim7 := { stood := { row := unframesUptoRow, standIns := [], harness := (true, "1245b2654d3f0dca49f85fb40e09b84a19b2bef1ba9808a1423b7832b1dfe4c5"), looks := false }, kinds := [], alts := [], laidByText := true, laidKinds := [.data, .data, .data, .data, .data, .pinned], laidTests := true, laidLooks := .later }
def UnframesUptoCardSaid : Prop := Claim7.holds Tryz.pinned (.plain (OpenSpec.upto unframesSpec)) unframesUptoCard

/-- THE SECOND FORM's CARD OF 'reellaw.Encodes'. -/
def encodesUptoCard : Claim7 := { stood := { row := encodesUptoRow, standIns := [], harness := (true, "1245b2654d3f0dca49f85fb40e09b84a19b2bef1ba9808a1423b7832b1dfe4c5"), looks := false }, kinds := [], alts := [], laidByText := true, laidKinds := [.data, .data, .data, .data, .data, .data], laidTests := true, laidLooks := .later }
def EncodesUptoCardSaid : Prop := Claim7.holds Tryz.pinned (.plain (OpenSpec.upto encodesSpec)) encodesUptoCard

/-- THE SECOND FORM's CARD OF 'reellaw.Decodes'. -/
def decodesUptoCard : Claim7 := { stood := { row := decodesUptoRow, standIns := [], harness := (true, "1245b2654d3f0dca49f85fb40e09b84a19b2bef1ba9808a1423b7832b1dfe4c5"), looks := false }, kinds := [], alts := [], laidByText := true, laidKinds := [.data, .data, .data, .data, .data, .pinned], laidTests := true, laidLooks := .later }
def DecodesUptoCardSaid : Prop := Claim7.holds Tryz.pinned (.plain (OpenSpec.upto decodesSpec)) decodesUptoCard

/-- THE SECOND FORM's CARD OF 'reellaw.Rescues'. -/
def rescuesUptoCard : Claim7 := { stood := { row := rescuesUptoRow, standIns := [], harness := (true, "1245b2654d3f0dca49f85fb40e09b84a19b2bef1ba9808a1423b7832b1dfe4c5"), looks := false }, kinds := [], alts := [], laidByText := true, laidKinds := [.data, .data, .data, .data, .data, .pinned], laidTests := true, laidLooks := .later }
def RescuesUptoCardSaid : Prop := Claim7.holds Tryz.pinned (.plain (OpenSpec.upto rescuesSpec)) rescuesUptoCard

/-- THE SECOND FORM's CARD OF 'reelkeep.Lossless'. -/
def losslessUptoCard : Claim7 := { stood := { row := losslessUptoRow, standIns := [], harness := (true, "1245b2654d3f0dca49f85fb40e09b84a19b2bef1ba9808a1423b7832b1dfe4c5"), looks := false }, kinds := [], alts := [], laidByText := true, laidKinds := [.data, .data, .data, .data, .data, .pinned], laidTests := true, laidLooks := .later }
def LosslessUptoCardSaid : Prop := Claim7.holds Tryz.pinned (.plain (OpenSpec.upto losslessSpec)) losslessUptoCard

/-- THE SECOND FORM's CARD OF 'reelkeep.Spoilt'. -/
def spoiltUptoCard : Claim7 := { stood := { row := spoiltUptoRow, standIns := [], harness := (true, "1245b2654d3f0dca49f85fb40e09b84a19b2bef1ba9808a1423b7832b1dfe4c5"), looks := false }, kinds := [], alts := [], laidByText := true, laidKinds := [.data, .data, .data, .data, .data, .pinned], laidTests := true, laidLooks := .later }
def SpoiltUptoCardSaid : Prop := Claim7.holds Tryz.pinned (.plain (OpenSpec.upto spoiltSpec)) spoiltUptoCard
end Rows
end Go.Proofs.YtlncjgnomhpjnaaGreatDoor
