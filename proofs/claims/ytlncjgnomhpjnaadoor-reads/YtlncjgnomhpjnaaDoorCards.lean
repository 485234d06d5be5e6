/-
  DERIVED. GIVEN WITH THE SEED: THE CARDS: each row of YtlncjgnomhpjnaaDoorRows.lean that lists a variable, with what it lists TIED to the program's text (the seventh form; the later family's looks); each row that meets fmt, with fmt's text TOLD by the authors' own Lean function (tested against real Go, not proved from fmt's source: count such statements apart). THE CARD IS WHAT COUNTS. Prove the row's statement (the work); the ties are given (YtlncjgnomhpjnaaDoorTie.lean); close each card by the builder's one call (the guide's Derived/Test/ToyasCard.lean, 'card_holds'). Laid BY PROGRAM, IN A SANDBOX (cutbox-door.mjs). By AI agents, Wed Nov 11 2026. No macro, syntax, notation, axiom, sorry.
-/
import Derived.Test.YtlncjgnomhpjnaaDoorRows
import GoSem.ClaimSeven
namespace Go.Proofs.YtlncjgnomhpjnaaDoor
namespace Rows

/-- THE TIED CARD OF 'reellaw.Codes'. -/
def codesCard : Claim7 := { stood := { row := codesRow, standIns := [], harness := (true, "e98e9e57375bb7fd87f3a0c7a37e716faca9b23b7796037a6d082312ae69afd6"), looks := false }, kinds := [], alts := [], laidByText := true, laidKinds := [.data, .data, .data, .data], laidTests := true, laidLooks := .later }
def CodesCardSaid : Prop := Claim7.holds Tryd.pinned (.plain (OpenSpec.ofChange codesSpec)) codesCard

/-- THE TIED CARD OF 'reellaw.Reads'. -/
def readsCard : Claim7 := { stood := { row := readsRow, standIns := [], harness := (true, "e98e9e57375bb7fd87f3a0c7a37e716faca9b23b7796037a6d082312ae69afd6"), looks := false }, kinds := [], alts := [], laidByText := true, laidKinds := [.data, .data], laidTests := true, laidLooks := .later }
def ReadsCardSaid : Prop := Claim7.holds Tryd.pinned (.plain (OpenSpec.ofChange readsSpec)) readsCard

/-- THE TIED CARD OF 'reelkeep.Tight'. -/
def tightCard : Claim7 := { stood := { row := tightRow, standIns := [], harness := (true, "e98e9e57375bb7fd87f3a0c7a37e716faca9b23b7796037a6d082312ae69afd6"), looks := false }, kinds := [], alts := [], laidByText := true, laidKinds := [.data, .data, .data], laidTests := true, laidLooks := .later }
def TightCardSaid : Prop := Claim7.holds Tryd.pinned (.plain (OpenSpec.ofChange tightSpec)) tightCard

/-- THE SECOND FORM's CARD OF 'reellaw.Codes'. -/
def codesUptoCard : Claim7 := { stood := { row := codesUptoRow, standIns := [], harness := (true, "e98e9e57375bb7fd87f3a0c7a37e716faca9b23b7796037a6d082312ae69afd6"), looks := false }, kinds := [], alts := [], laidByText := true, laidKinds := [.data, .data, .data, .data], laidTests := true, laidLooks := .later }
def CodesUptoCardSaid : Prop := Claim7.holds Tryd.pinned (.plain (OpenSpec.upto codesSpec)) codesUptoCard

/-- THE SECOND FORM's CARD OF 'reellaw.Reads'. -/
def readsUptoCard : Claim7 := { stood := { row := readsUptoRow, standIns := [], harness := (true, "e98e9e57375bb7fd87f3a0c7a37e716faca9b23b7796037a6d082312ae69afd6"), looks := false }, kinds := [], alts := [], laidByText := true, laidKinds := [.data, .data], laidTests := true, laidLooks := .later }
def ReadsUptoCardSaid : Prop := Claim7.holds Tryd.pinned (.plain (OpenSpec.upto readsSpec)) readsUptoCard

/-- THE SECOND FORM's CARD OF 'reelkeep.Tight'. -/
def tightUptoCard : Claim7 := { stood := { row := tightUptoRow, standIns := [], harness := (true, "e98e9e57375bb7fd87f3a0c7a37e716faca9b23b7796037a6d082312ae69afd6"), looks := false }, kinds := [], alts := [], laidByText := true, laidKinds := [.data, .data, .data], laidTests := true, laidLooks := .later }
def TightUptoCardSaid : Prop := Claim7.holds Tryd.pinned (.plain (OpenSpec.upto tightSpec)) tightUptoCard
end Rows
end Go.Proofs.YtlncjgnomhpjnaaDoor
