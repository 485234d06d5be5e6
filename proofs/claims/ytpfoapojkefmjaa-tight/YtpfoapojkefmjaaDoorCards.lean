/-
  DERIVED. GIVEN WITH THE SEED: THE CARDS: each row of YtpfoapojkefmjaaDoorRows.lean that lists a variable, with what it lists TIED to the program's text (the seventh form; the later family's looks); each row that meets fmt, with fmt's text TOLD by the authors' own Lean function (tested against real Go, not proved from fmt's source: count such statements apart). THE CARD IS WHAT COUNTS. Prove the row's statement (the work); the ties are given (YtpfoapojkefmjaaDoorTie.lean); close each card by the builder's one call (the guide's Derived/Test/ToyasCard.lean, 'card_holds'). Laid BY PROGRAM, IN A SANDBOX (cutbox-door.mjs). By AI agents, Wed Nov 11 2026. No macro, syntax, notation, axiom, sorry.
-/
import Derived.Test.YtpfoapojkefmjaaDoorRows
import GoSem.ClaimSeven
namespace Go.Proofs.YtpfoapojkefmjaaDoor
namespace Rows

/-- THE TIED CARD OF 'reellaw.Codes'. -/
def codesCard : Claim7 := { stood := { row := codesRow, standIns := [], harness := (true, "8ca17dcf6a75d32a760adc25aa0b34012fbcb9a428947dade61fb91cee60ecbe"), looks := false }, kinds := [], alts := [], laidByText := true, laidKinds := [.data, .data, .data, .data], laidTests := true, laidLooks := .later }
def CodesCardSaid : Prop := Claim7.holds Tryd.pinned (.plain (OpenSpec.ofChange codesSpec)) codesCard

/-- THE TIED CARD OF 'reellaw.Reads'. -/
def readsCard : Claim7 := { stood := { row := readsRow, standIns := [], harness := (true, "8ca17dcf6a75d32a760adc25aa0b34012fbcb9a428947dade61fb91cee60ecbe"), looks := false }, kinds := [], alts := [], laidByText := true, laidKinds := [.data, .data], laidTests := true, laidLooks := .later }
def ReadsCardSaid : Prop := Claim7.holds Tryd.pinned (.plain (OpenSpec.ofChange readsSpec)) readsCard

/-- THE TIED CARD OF 'reelkeep.Tight'. -/
def tightCard : Claim7 := { stood := { row := tightRow, standIns := [], harness := (true, "8ca17dcf6a75d32a760adc25aa0b34012fbcb9a428947dade61fb91cee60ecbe"), looks := false }, kinds := [], alts := [], laidByText := true, laidKinds := [.data, .data, .data], laidTests := true, laidLooks := .later }
def TightCardSaid : Prop := Claim7.holds Tryd.pinned (.plain (OpenSpec.ofChange tightSpec)) tightCard

/-- THE TIED CARD OF 'reellaw.Frames'. -/
def framesCard : Claim7 := { stood := { row := framesRow, standIns := [], harness := (true, "8ca17dcf6a75d32a760adc25aa0b34012fbcb9a428947dade61fb91cee60ecbe"), looks := false }, kinds := [], alts := [], laidByText := true, laidKinds := [.data, .data, .data, .data, .data, .data], laidTests := true, laidLooks := .later }
def FramesCardSaid : Prop := Claim7.holds Tryd.pinned (.plain (OpenSpec.ofChange framesSpec)) framesCard

/-- THE SECOND FORM's CARD OF 'reellaw.Codes'. -/
def codesUptoCard : Claim7 := { stood := { row := codesUptoRow, standIns := [], harness := (true, "8ca17dcf6a75d32a760adc25aa0b34012fbcb9a428947dade61fb91cee60ecbe"), looks := false }, kinds := [], alts := [], laidByText := true, laidKinds := [.data, .data, .data, .data], laidTests := true, laidLooks := .later }
def CodesUptoCardSaid : Prop := Claim7.holds Tryd.pinned (.plain (OpenSpec.upto codesSpec)) codesUptoCard

/-- THE SECOND FORM's CARD OF 'reellaw.Reads'. -/
def readsUptoCard : Claim7 := { stood := { row := readsUptoRow, standIns := [], harness := (true, "8ca17dcf6a75d32a760adc25aa0b34012fbcb9a428947dade61fb91cee60ecbe"), looks := false }, kinds := [], alts := [], laidByText := true, laidKinds := [.data, .data], laidTests := true, laidLooks := .later }
def ReadsUptoCardSaid : Prop := Claim7.holds Tryd.pinned (.plain (OpenSpec.upto readsSpec)) readsUptoCard

/-- THE SECOND FORM's CARD OF 'reelkeep.Tight'. -/
def tightUptoCard : Claim7 := { stood := { row := tightUptoRow, standIns := [], harness := (true, "8ca17dcf6a75d32a760adc25aa0b34012fbcb9a428947dade61fb91cee60ecbe"), looks := false }, kinds := [], alts := [], laidByText := true, laidKinds := [.data, .data, .data], laidTests := true, laidLooks := .later }
def TightUptoCardSaid : Prop := Claim7.holds Tryd.pinned (.plain (OpenSpec.upto tightSpec)) tightUptoCard

/-- THE SECOND FORM's CARD OF 'reellaw.Frames'. -/
def framesUptoCard : Claim7 := { stood := { row := framesUptoRow, standIns := [], harness := (true, "8ca17dcf6a75d32a760adc25aa0b34012fbcb9a428947dade61fb91cee60ecbe"), looks := false }, kinds := [], alts := [], laidByText := true, laidKinds := [.data, .data, .data, .data, .data, .data], laidTests := true, laidLooks := .later }
def FramesUptoCardSaid : Prop := Claim7.holds Tryd.pinned (.plain (OpenSpec.upto framesSpec)) framesUptoCard
end Rows
end Go.Proofs.YtpfoapojkefmjaaDoor
