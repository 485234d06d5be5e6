/-
  NARROWER THAN 'FOR EVERY INPUT', by the rows' own cells (each row's printed sentence says how): Sought: laid · Lines: laid · Settled: laid · Broken: laid · Alike: laid · All: laid.
  DERIVED. THE GIVEN ROWS OF THIS SEAT. 6 by the template 'for every input the law returns true; each argument reads behind the call as it read before'; 0 by the template 'total and deterministic' (their statements: YtlncjgnomhpjnabGreatDoorTotals.lean).
  GIVEN WITH THE SEED: the statements are not yours to turn. If you find one false, say at which input.
  Laid BY PROGRAM, IN A SANDBOX (cutbox-rows.mjs): the forced cells as the released guide's own fill.sh prints them over the translation 5096d9c2fc060816… (all of the seat's roots in one cut). By AI agents, Wed Nov 11 2026. No macro, syntax, notation, axiom, sorry.
-/
import Derived.Test.YtlncjgnomhpjnabGreatDoorChecked
import GoSem.PinnedTables
import GoSem.Claim
import GoSem.ClaimJoined
import GoSem.ClaimMapViews
import Derived.JoinedTies
import Derived.KernelRfl
namespace Go.Proofs.YtlncjgnomhpjnabGreatDoor
/- THE CELL 'sum', in the pinned program and in every row, IS THE sha256 OF THE DUMP (.gsa) THAT YtlncjgnomhpjnabGreatDoorProg.lean LOADS. Nothing in Lean hashes anything: it is a label: what it is worth is what the hold of that sum in a sandbox is worth. -/
noncomputable def Tryz.pinned : Pinned := { name := "ytlncjgnomhpjnabgreatdoor", sum := "5096d9c2fc060816e4d2f5e7ff01bc4f6f3e9dcf49618c045934fbb1634d26d9", checked := Tryz.checked }
namespace Rows
def none {H : Type} : Left H := { results := [], args := [] }

/- WHAT THE LISTED PACKAGE-LEVEL VARIABLES READ AS WHEN THE CALL BEGINS. Each datum BY PROGRAM (the guide's laid-datum.mjs) off the statement by which the dump's own 'gosem.cut.vars' lays the variable. In a bare row this is a premise. The card (YtlncjgnomhpjnabGreatDoorCards.lean) ties it to the program's text. -/
def laid_math_bits_deBruijn32tab {H : Type} : DataW H := .agg [.lit (.int .u8 0), .lit (.int .u8 1), .lit (.int .u8 28), .lit (.int .u8 2), .lit (.int .u8 29), .lit (.int .u8 14), .lit (.int .u8 24), .lit (.int .u8 3), .lit (.int .u8 30), .lit (.int .u8 22), .lit (.int .u8 20), .lit (.int .u8 15), .lit (.int .u8 25), .lit (.int .u8 17), .lit (.int .u8 4), .lit (.int .u8 8), .lit (.int .u8 31), .lit (.int .u8 27), .lit (.int .u8 13), .lit (.int .u8 23), .lit (.int .u8 21), .lit (.int .u8 19), .lit (.int .u8 16), .lit (.int .u8 7), .lit (.int .u8 26), .lit (.int .u8 12), .lit (.int .u8 18), .lit (.int .u8 6), .lit (.int .u8 11), .lit (.int .u8 5), .lit (.int .u8 10), .lit (.int .u8 9)]
def laid_math_bits_deBruijn64tab {H : Type} : DataW H := .agg [.lit (.int .u8 0), .lit (.int .u8 1), .lit (.int .u8 56), .lit (.int .u8 2), .lit (.int .u8 57), .lit (.int .u8 49), .lit (.int .u8 28), .lit (.int .u8 3), .lit (.int .u8 61), .lit (.int .u8 58), .lit (.int .u8 42), .lit (.int .u8 50), .lit (.int .u8 38), .lit (.int .u8 29), .lit (.int .u8 17), .lit (.int .u8 4), .lit (.int .u8 62), .lit (.int .u8 47), .lit (.int .u8 59), .lit (.int .u8 36), .lit (.int .u8 45), .lit (.int .u8 43), .lit (.int .u8 51), .lit (.int .u8 22), .lit (.int .u8 53), .lit (.int .u8 39), .lit (.int .u8 33), .lit (.int .u8 30), .lit (.int .u8 24), .lit (.int .u8 18), .lit (.int .u8 12), .lit (.int .u8 5), .lit (.int .u8 63), .lit (.int .u8 55), .lit (.int .u8 48), .lit (.int .u8 27), .lit (.int .u8 60), .lit (.int .u8 41), .lit (.int .u8 37), .lit (.int .u8 16), .lit (.int .u8 46), .lit (.int .u8 35), .lit (.int .u8 44), .lit (.int .u8 21), .lit (.int .u8 52), .lit (.int .u8 32), .lit (.int .u8 23), .lit (.int .u8 11), .lit (.int .u8 54), .lit (.int .u8 26), .lit (.int .u8 40), .lit (.int .u8 15), .lit (.int .u8 34), .lit (.int .u8 20), .lit (.int .u8 31), .lit (.int .u8 10), .lit (.int .u8 25), .lit (.int .u8 14), .lit (.int .u8 19), .lit (.int .u8 9), .lit (.int .u8 13), .lit (.int .u8 8), .lit (.int .u8 7), .lit (.int .u8 6)]
def laid_unicode_utf8_acceptRanges {H : Type} : DataW H := .agg [.agg [.lit (.int .u8 128), .lit (.int .u8 191)], .agg [.lit (.int .u8 160), .lit (.int .u8 191)], .agg [.lit (.int .u8 128), .lit (.int .u8 159)], .agg [.lit (.int .u8 144), .lit (.int .u8 191)], .agg [.lit (.int .u8 128), .lit (.int .u8 143)], .agg [.lit (.int .u8 0), .lit (.int .u8 0)], .agg [.lit (.int .u8 0), .lit (.int .u8 0)], .agg [.lit (.int .u8 0), .lit (.int .u8 0)], .agg [.lit (.int .u8 0), .lit (.int .u8 0)], .agg [.lit (.int .u8 0), .lit (.int .u8 0)], .agg [.lit (.int .u8 0), .lit (.int .u8 0)], .agg [.lit (.int .u8 0), .lit (.int .u8 0)], .agg [.lit (.int .u8 0), .lit (.int .u8 0)], .agg [.lit (.int .u8 0), .lit (.int .u8 0)], .agg [.lit (.int .u8 0), .lit (.int .u8 0)], .agg [.lit (.int .u8 0), .lit (.int .u8 0)]]
def laid_reel_subframe_fixedWeights {H : Type} : DataW H := .agg [.agg [.lit (.int .i64 0), .lit (.int .i64 0), .lit (.int .i64 0), .lit (.int .i64 0)], .agg [.lit (.int .i64 1), .lit (.int .i64 0), .lit (.int .i64 0), .lit (.int .i64 0)], .agg [.lit (.int .i64 2), .lit (.int .i64 (-1)), .lit (.int .i64 0), .lit (.int .i64 0)], .agg [.lit (.int .i64 3), .lit (.int .i64 (-3)), .lit (.int .i64 1), .lit (.int .i64 0)], .agg [.lit (.int .i64 4), .lit (.int .i64 (-6)), .lit (.int .i64 4), .lit (.int .i64 (-1))]]
def laid_reel_frame_pairs {H : Type} : DataW H := .agg [.agg [.lit (.int .i64 0), .lit (.int .i64 1)], .agg [.lit (.int .i64 0), .lit (.int .i64 2)], .agg [.lit (.int .i64 2), .lit (.int .i64 1)], .agg [.lit (.int .i64 3), .lit (.int .i64 2)]]
/-- One of Go's own tables, pinned by name: the form's constant. -/
def laid_unicode_utf8_first : DataW Unit := Go.Pinned.utf8First
def laid_reel_reelref_taken {H : Type} : DataW H := .agg [.agg [.lit (.int .i64 0), .lit (.int .i64 0), .lit (.int .i64 0), .lit (.int .i64 0)], .agg [.lit (.int .i64 1), .lit (.int .i64 0), .lit (.int .i64 0), .lit (.int .i64 0)], .agg [.lit (.int .i64 2), .lit (.int .i64 (-1)), .lit (.int .i64 0), .lit (.int .i64 0)], .agg [.lit (.int .i64 3), .lit (.int .i64 (-3)), .lit (.int .i64 1), .lit (.int .i64 0)], .agg [.lit (.int .i64 4), .lit (.int .i64 (-6)), .lit (.int .i64 4), .lit (.int .i64 (-1))]]

/-- 'reelkeep.Sought': WHATEVER THE INPUT: true; the input reads as it did. -/
def soughtSpec : ChangeSpec := { name := "sought", fn := fun _ => fun
  | [d1, d2, d3, d4] => { results := [.lit (.bool true)], args := [d1, d2, d3, d4] }
  | _ => none }
def soughtRow : OpenClaim := { program := "ytlncjgnomhpjnabgreatdoor", sum := "5096d9c2fc060816e4d2f5e7ff01bc4f6f3e9dcf49618c045934fbb1634d26d9", func := "reel/reelkeep.Sought", spec := "sought", inPlace := ["internal/abi.NoEscape", "internal/bytealg.MakeNoZero", "internal/bytealg.IndexByteString", "internal/bytealg.IndexString"], named := ["reel/frame.pairs", "math/bits.deBruijn32tab", "math/bits.deBruijn64tab", "reel/subframe.fixedWeights", "unicode/utf8.first", "unicode/utf8.acceptRanges", "internal/bytealg.MaxLen"], apart := false, laid := [("math/bits.deBruijn32tab", laid_math_bits_deBruijn32tab), ("math/bits.deBruijn64tab", laid_math_bits_deBruijn64tab), ("unicode/utf8.acceptRanges", laid_unicode_utf8_acceptRanges), ("reel/subframe.fixedWeights", laid_reel_subframe_fixedWeights), ("reel/frame.pairs", laid_reel_frame_pairs), ("unicode/utf8.first", laid_unicode_utf8_first)] }
def SoughtSaid : Prop := soughtRow.holds Tryz.pinned (OpenSpec.ofChange soughtSpec)

/-- ITS FALSE NEIGHBOUR: 'it returns false'. Refute it at one input. -/
def soughtWrong : ChangeSpec := { name := "sought", fn := fun _ => fun
  | [d1, d2, d3, d4] => { results := [.lit (.bool false)], args := [d1, d2, d3, d4] }
  | _ => none }
def SoughtWrongFalsely : Prop := soughtRow.holds Tryz.pinned (OpenSpec.ofChange soughtWrong)

/-- 'reellaw.Lines': WHATEVER THE INPUT: true; the input reads as it did. -/
def linesSpec : ChangeSpec := { name := "lines", fn := fun _ => fun
  | [d] => { results := [.lit (.bool true)], args := [d] }
  | _ => none }
def linesRow : OpenClaim := { program := "ytlncjgnomhpjnabgreatdoor", sum := "5096d9c2fc060816e4d2f5e7ff01bc4f6f3e9dcf49618c045934fbb1634d26d9", func := "reel/reellaw.Lines", spec := "lines", inPlace := ["internal/abi.NoEscape", "internal/bytealg.IndexByteString", "internal/bytealg.IndexString", "internal/bytealg.MakeNoZero", "(*sync.WaitGroup).Wait", "internal/race.Disable", "sync/atomic.LoadUint64", "internal/race.Enable", "internal/race.Acquire", "internal/synctest.IsAssociated[sync.WaitGroup]", "sync/atomic.CompareAndSwapUint64", "internal/synctest.Disassociate[sync.WaitGroup]", "internal/race.Write", "internal/synctest.IsInBubble", "sync.runtime_SemacquireWaitGroup", "(*sync.WaitGroup).Add", "internal/race.ReleaseMerge", "internal/synctest.Associate[sync.WaitGroup]", "sync.fatal", "sync/atomic.OrUint64", "sync/atomic.AddUint64", "internal/race.Read", "sync/atomic.StoreUint64", "sync.runtime_Semrelease", "(*sync.WaitGroup).Done"], unfollowed := true, recurses := true, named := ["reel/reelref.taken", "math/bits.deBruijn32tab", "math/bits.deBruijn64tab", "reel/subframe.fixedWeights", "reel/frame.pairs", "unicode/utf8.first", "unicode/utf8.acceptRanges", "internal/bytealg.MaxLen"], apart := false, laid := [("math/bits.deBruijn32tab", laid_math_bits_deBruijn32tab), ("math/bits.deBruijn64tab", laid_math_bits_deBruijn64tab), ("reel/reelref.taken", laid_reel_reelref_taken), ("unicode/utf8.acceptRanges", laid_unicode_utf8_acceptRanges), ("reel/subframe.fixedWeights", laid_reel_subframe_fixedWeights), ("reel/frame.pairs", laid_reel_frame_pairs), ("unicode/utf8.first", laid_unicode_utf8_first)] }
def LinesSaid : Prop := linesRow.holds Tryz.pinned (OpenSpec.ofChange linesSpec)

/-- ITS FALSE NEIGHBOUR: 'it returns false'. Refute it at one input. -/
def linesWrong : ChangeSpec := { name := "lines", fn := fun _ => fun
  | [d] => { results := [.lit (.bool false)], args := [d] }
  | _ => none }
def LinesWrongFalsely : Prop := linesRow.holds Tryz.pinned (OpenSpec.ofChange linesWrong)

/-- 'reelkeep.Settled': WHATEVER THE INPUT: true; the input reads as it did. -/
def settledSpec : ChangeSpec := { name := "settled", fn := fun _ => fun
  | [d1, d2, d3] => { results := [.lit (.bool true)], args := [d1, d2, d3] }
  | _ => none }
def settledRow : OpenClaim := { program := "ytlncjgnomhpjnabgreatdoor", sum := "5096d9c2fc060816e4d2f5e7ff01bc4f6f3e9dcf49618c045934fbb1634d26d9", func := "reel/reelkeep.Settled", spec := "settled", inPlace := ["internal/abi.NoEscape", "internal/bytealg.MakeNoZero"], unfollowed := true, recurses := true, named := ["reel/frame.pairs", "math/bits.deBruijn32tab", "math/bits.deBruijn64tab", "reel/subframe.fixedWeights"], apart := false, laid := [("math/bits.deBruijn32tab", laid_math_bits_deBruijn32tab), ("math/bits.deBruijn64tab", laid_math_bits_deBruijn64tab), ("reel/subframe.fixedWeights", laid_reel_subframe_fixedWeights), ("reel/frame.pairs", laid_reel_frame_pairs)] }
def SettledSaid : Prop := settledRow.holds Tryz.pinned (OpenSpec.ofChange settledSpec)

/-- ITS FALSE NEIGHBOUR: 'it returns false'. Refute it at one input. -/
def settledWrong : ChangeSpec := { name := "settled", fn := fun _ => fun
  | [d1, d2, d3] => { results := [.lit (.bool false)], args := [d1, d2, d3] }
  | _ => none }
def SettledWrongFalsely : Prop := settledRow.holds Tryz.pinned (OpenSpec.ofChange settledWrong)

/-- 'reelkeep.Broken': WHATEVER THE INPUT: true; the input reads as it did. -/
def brokenSpec : ChangeSpec := { name := "broken", fn := fun _ => fun
  | [d1, d2, d3, d4] => { results := [.lit (.bool true)], args := [d1, d2, d3, d4] }
  | _ => none }
def brokenRow : OpenClaim := { program := "ytlncjgnomhpjnabgreatdoor", sum := "5096d9c2fc060816e4d2f5e7ff01bc4f6f3e9dcf49618c045934fbb1634d26d9", func := "reel/reelkeep.Broken", spec := "broken", inPlace := ["internal/abi.NoEscape", "internal/bytealg.MakeNoZero", "internal/bytealg.IndexByteString", "internal/bytealg.IndexString"], unfollowed := true, recurses := true, named := ["reel/frame.pairs", "math/bits.deBruijn32tab", "math/bits.deBruijn64tab", "reel/subframe.fixedWeights", "unicode/utf8.first", "unicode/utf8.acceptRanges", "internal/bytealg.MaxLen"], apart := false, laid := [("math/bits.deBruijn32tab", laid_math_bits_deBruijn32tab), ("math/bits.deBruijn64tab", laid_math_bits_deBruijn64tab), ("unicode/utf8.acceptRanges", laid_unicode_utf8_acceptRanges), ("reel/subframe.fixedWeights", laid_reel_subframe_fixedWeights), ("reel/frame.pairs", laid_reel_frame_pairs), ("unicode/utf8.first", laid_unicode_utf8_first)] }
def BrokenSaid : Prop := brokenRow.holds Tryz.pinned (OpenSpec.ofChange brokenSpec)

/-- ITS FALSE NEIGHBOUR: 'it returns false'. Refute it at one input. -/
def brokenWrong : ChangeSpec := { name := "broken", fn := fun _ => fun
  | [d1, d2, d3, d4] => { results := [.lit (.bool false)], args := [d1, d2, d3, d4] }
  | _ => none }
def BrokenWrongFalsely : Prop := brokenRow.holds Tryz.pinned (OpenSpec.ofChange brokenWrong)

/-- 'reelkeep.Alike': WHATEVER THE INPUT: true; the input reads as it did. -/
def alikeSpec : ChangeSpec := { name := "alike", fn := fun _ => fun
  | [d1, d2, d3] => { results := [.lit (.bool true)], args := [d1, d2, d3] }
  | _ => none }
def alikeRow : OpenClaim := { program := "ytlncjgnomhpjnabgreatdoor", sum := "5096d9c2fc060816e4d2f5e7ff01bc4f6f3e9dcf49618c045934fbb1634d26d9", func := "reel/reelkeep.Alike", spec := "alike", inPlace := ["internal/abi.NoEscape", "internal/bytealg.MakeNoZero", "(*sync.WaitGroup).Wait", "internal/race.Disable", "sync/atomic.LoadUint64", "internal/race.Enable", "internal/race.Acquire", "internal/synctest.IsAssociated[sync.WaitGroup]", "sync/atomic.CompareAndSwapUint64", "internal/synctest.Disassociate[sync.WaitGroup]", "internal/race.Write", "internal/synctest.IsInBubble", "sync.runtime_SemacquireWaitGroup", "(*sync.WaitGroup).Add", "internal/race.ReleaseMerge", "internal/synctest.Associate[sync.WaitGroup]", "sync.fatal", "sync/atomic.OrUint64", "sync/atomic.AddUint64", "internal/race.Read", "sync/atomic.StoreUint64", "sync.runtime_Semrelease", "(*sync.WaitGroup).Done", "internal/bytealg.IndexByteString", "internal/bytealg.IndexString"], named := ["reel/frame.pairs", "math/bits.deBruijn32tab", "math/bits.deBruijn64tab", "reel/subframe.fixedWeights", "unicode/utf8.first", "unicode/utf8.acceptRanges", "internal/bytealg.MaxLen"], apart := false, laid := [("math/bits.deBruijn32tab", laid_math_bits_deBruijn32tab), ("math/bits.deBruijn64tab", laid_math_bits_deBruijn64tab), ("unicode/utf8.acceptRanges", laid_unicode_utf8_acceptRanges), ("reel/subframe.fixedWeights", laid_reel_subframe_fixedWeights), ("reel/frame.pairs", laid_reel_frame_pairs), ("unicode/utf8.first", laid_unicode_utf8_first)] }
def AlikeSaid : Prop := alikeRow.holds Tryz.pinned (OpenSpec.ofChange alikeSpec)

/-- ITS FALSE NEIGHBOUR: 'it returns false'. Refute it at one input. -/
def alikeWrong : ChangeSpec := { name := "alike", fn := fun _ => fun
  | [d1, d2, d3] => { results := [.lit (.bool false)], args := [d1, d2, d3] }
  | _ => none }
def AlikeWrongFalsely : Prop := alikeRow.holds Tryz.pinned (OpenSpec.ofChange alikeWrong)

/-- 'reellaw.All': WHATEVER THE INPUT: true; the input reads as it did. -/
def allSpec : ChangeSpec := { name := "all", fn := fun _ => fun
  | [d] => { results := [.lit (.bool true)], args := [d] }
  | _ => none }
def allRow : OpenClaim := { program := "ytlncjgnomhpjnabgreatdoor", sum := "5096d9c2fc060816e4d2f5e7ff01bc4f6f3e9dcf49618c045934fbb1634d26d9", func := "reel/reellaw.All", spec := "all", inPlace := ["internal/abi.NoEscape", "internal/bytealg.IndexByteString", "internal/bytealg.IndexString", "internal/bytealg.MakeNoZero", "(*sync.WaitGroup).Wait", "internal/race.Disable", "sync/atomic.LoadUint64", "internal/race.Enable", "internal/race.Acquire", "internal/synctest.IsAssociated[sync.WaitGroup]", "sync/atomic.CompareAndSwapUint64", "internal/synctest.Disassociate[sync.WaitGroup]", "internal/race.Write", "internal/synctest.IsInBubble", "sync.runtime_SemacquireWaitGroup", "(*sync.WaitGroup).Add", "internal/race.ReleaseMerge", "internal/synctest.Associate[sync.WaitGroup]", "sync.fatal", "sync/atomic.OrUint64", "sync/atomic.AddUint64", "internal/race.Read", "sync/atomic.StoreUint64", "sync.runtime_Semrelease", "(*sync.WaitGroup).Done"], unfollowed := true, recurses := true, named := ["reel/reelref.taken", "math/bits.deBruijn32tab", "math/bits.deBruijn64tab", "reel/subframe.fixedWeights", "reel/frame.pairs", "unicode/utf8.first", "unicode/utf8.acceptRanges", "internal/bytealg.MaxLen"], apart := false, laid := [("math/bits.deBruijn32tab", laid_math_bits_deBruijn32tab), ("math/bits.deBruijn64tab", laid_math_bits_deBruijn64tab), ("reel/reelref.taken", laid_reel_reelref_taken), ("unicode/utf8.acceptRanges", laid_unicode_utf8_acceptRanges), ("reel/subframe.fixedWeights", laid_reel_subframe_fixedWeights), ("reel/frame.pairs", laid_reel_frame_pairs), ("unicode/utf8.first", laid_unicode_utf8_first)] }
def AllSaid : Prop := allRow.holds Tryz.pinned (OpenSpec.ofChange allSpec)

/-- ITS FALSE NEIGHBOUR: 'it returns false'. Refute it at one input. -/
def allWrong : ChangeSpec := { name := "all", fn := fun _ => fun
  | [d] => { results := [.lit (.bool false)], args := [d] }
  | _ => none }
def AllWrongFalsely : Prop := allRow.holds Tryz.pinned (OpenSpec.ofChange allWrong)

/- THE SECOND FORM. 'bulk': how many values and letters a reading holds, each counted each time it is reached (what is shared counts as often as it is met; a slice's spare places count too). A statement '..UptoSaid' is the law's where the arguments, and the package variables that the reading takes, are together of bulk at most 1048576: NARROWER than '..Said'. Prove '..Said' where nothing that the law and all that it calls make is longer than what came in: it says more and counts as full. Else prove '..UptoSaid'. A law counts once. -/
mutual
def uptoBulk {H : Type} : DataW H → Nat
  | .lit (.string bytes) => bytes.length + 1
  | .lit _ => 1
  | .nil => 1
  | .ptr d => uptoBulk d + 1
  | .slice elems spare => uptoBulkAll elems + uptoBulkAll spare + 1
  | .agg parts => uptoBulkAll parts + 1
  | .iface _ d => uptoBulk d + 1
  | .map entries => uptoBulkEntries entries + 1
  | .held _ => 1
def uptoBulkAll {H : Type} : List (DataW H) → Nat
  | [] => 0
  | d :: r => uptoBulk d + uptoBulkAll r
def uptoBulkEntries {H : Type} : List (Lit × DataW H) → Nat
  | [] => 0
  | x :: r => uptoBulkEntry x + uptoBulkEntries r
def uptoBulkEntry {H : Type} : Lit × DataW H → Nat
  | (.string bytes, d) => bytes.length + uptoBulk d + 1
  | (_, d) => uptoBulk d + 1
 end
def uptoSmall : (H : Type) → List (DataW H) → Bool := fun _ ds => decide (uptoBulkAll ds ≤ 1048576)
def OpenSpec.upto (s : _root_.Go.ChangeSpec) : _root_.Go.OpenSpec := { _root_.Go.OpenSpec.ofChange s with cond := some uptoSmall }

/-- 'reelkeep.Sought', WHERE WHAT IT READS IS OF BULK AT MOST 1048576: true; the input reads as it did. -/
def soughtUptoRow : OpenClaim := { program := "ytlncjgnomhpjnabgreatdoor", sum := "5096d9c2fc060816e4d2f5e7ff01bc4f6f3e9dcf49618c045934fbb1634d26d9", func := "reel/reelkeep.Sought", spec := "sought", inPlace := ["internal/abi.NoEscape", "internal/bytealg.MakeNoZero", "internal/bytealg.IndexByteString", "internal/bytealg.IndexString"], named := ["reel/frame.pairs", "math/bits.deBruijn32tab", "math/bits.deBruijn64tab", "reel/subframe.fixedWeights", "unicode/utf8.first", "unicode/utf8.acceptRanges", "internal/bytealg.MaxLen"], apart := false, laid := [("math/bits.deBruijn32tab", laid_math_bits_deBruijn32tab), ("math/bits.deBruijn64tab", laid_math_bits_deBruijn64tab), ("unicode/utf8.acceptRanges", laid_unicode_utf8_acceptRanges), ("reel/subframe.fixedWeights", laid_reel_subframe_fixedWeights), ("reel/frame.pairs", laid_reel_frame_pairs), ("unicode/utf8.first", laid_unicode_utf8_first)], narrowed := true }
def SoughtUptoSaid : Prop := soughtUptoRow.holds Tryz.pinned (OpenSpec.upto soughtSpec)

/-- 'reellaw.Lines', WHERE WHAT IT READS IS OF BULK AT MOST 1048576: true; the input reads as it did. -/
def linesUptoRow : OpenClaim := { program := "ytlncjgnomhpjnabgreatdoor", sum := "5096d9c2fc060816e4d2f5e7ff01bc4f6f3e9dcf49618c045934fbb1634d26d9", func := "reel/reellaw.Lines", spec := "lines", inPlace := ["internal/abi.NoEscape", "internal/bytealg.IndexByteString", "internal/bytealg.IndexString", "internal/bytealg.MakeNoZero", "(*sync.WaitGroup).Wait", "internal/race.Disable", "sync/atomic.LoadUint64", "internal/race.Enable", "internal/race.Acquire", "internal/synctest.IsAssociated[sync.WaitGroup]", "sync/atomic.CompareAndSwapUint64", "internal/synctest.Disassociate[sync.WaitGroup]", "internal/race.Write", "internal/synctest.IsInBubble", "sync.runtime_SemacquireWaitGroup", "(*sync.WaitGroup).Add", "internal/race.ReleaseMerge", "internal/synctest.Associate[sync.WaitGroup]", "sync.fatal", "sync/atomic.OrUint64", "sync/atomic.AddUint64", "internal/race.Read", "sync/atomic.StoreUint64", "sync.runtime_Semrelease", "(*sync.WaitGroup).Done"], unfollowed := true, recurses := true, named := ["reel/reelref.taken", "math/bits.deBruijn32tab", "math/bits.deBruijn64tab", "reel/subframe.fixedWeights", "reel/frame.pairs", "unicode/utf8.first", "unicode/utf8.acceptRanges", "internal/bytealg.MaxLen"], apart := false, laid := [("math/bits.deBruijn32tab", laid_math_bits_deBruijn32tab), ("math/bits.deBruijn64tab", laid_math_bits_deBruijn64tab), ("reel/reelref.taken", laid_reel_reelref_taken), ("unicode/utf8.acceptRanges", laid_unicode_utf8_acceptRanges), ("reel/subframe.fixedWeights", laid_reel_subframe_fixedWeights), ("reel/frame.pairs", laid_reel_frame_pairs), ("unicode/utf8.first", laid_unicode_utf8_first)], narrowed := true }
def LinesUptoSaid : Prop := linesUptoRow.holds Tryz.pinned (OpenSpec.upto linesSpec)

/-- 'reelkeep.Settled', WHERE WHAT IT READS IS OF BULK AT MOST 1048576: true; the input reads as it did. -/
def settledUptoRow : OpenClaim := { program := "ytlncjgnomhpjnabgreatdoor", sum := "5096d9c2fc060816e4d2f5e7ff01bc4f6f3e9dcf49618c045934fbb1634d26d9", func := "reel/reelkeep.Settled", spec := "settled", inPlace := ["internal/abi.NoEscape", "internal/bytealg.MakeNoZero"], unfollowed := true, recurses := true, named := ["reel/frame.pairs", "math/bits.deBruijn32tab", "math/bits.deBruijn64tab", "reel/subframe.fixedWeights"], apart := false, laid := [("math/bits.deBruijn32tab", laid_math_bits_deBruijn32tab), ("math/bits.deBruijn64tab", laid_math_bits_deBruijn64tab), ("reel/subframe.fixedWeights", laid_reel_subframe_fixedWeights), ("reel/frame.pairs", laid_reel_frame_pairs)], narrowed := true }
def SettledUptoSaid : Prop := settledUptoRow.holds Tryz.pinned (OpenSpec.upto settledSpec)

/-- 'reelkeep.Broken', WHERE WHAT IT READS IS OF BULK AT MOST 1048576: true; the input reads as it did. -/
def brokenUptoRow : OpenClaim := { program := "ytlncjgnomhpjnabgreatdoor", sum := "5096d9c2fc060816e4d2f5e7ff01bc4f6f3e9dcf49618c045934fbb1634d26d9", func := "reel/reelkeep.Broken", spec := "broken", inPlace := ["internal/abi.NoEscape", "internal/bytealg.MakeNoZero", "internal/bytealg.IndexByteString", "internal/bytealg.IndexString"], unfollowed := true, recurses := true, named := ["reel/frame.pairs", "math/bits.deBruijn32tab", "math/bits.deBruijn64tab", "reel/subframe.fixedWeights", "unicode/utf8.first", "unicode/utf8.acceptRanges", "internal/bytealg.MaxLen"], apart := false, laid := [("math/bits.deBruijn32tab", laid_math_bits_deBruijn32tab), ("math/bits.deBruijn64tab", laid_math_bits_deBruijn64tab), ("unicode/utf8.acceptRanges", laid_unicode_utf8_acceptRanges), ("reel/subframe.fixedWeights", laid_reel_subframe_fixedWeights), ("reel/frame.pairs", laid_reel_frame_pairs), ("unicode/utf8.first", laid_unicode_utf8_first)], narrowed := true }
def BrokenUptoSaid : Prop := brokenUptoRow.holds Tryz.pinned (OpenSpec.upto brokenSpec)

/-- 'reelkeep.Alike', WHERE WHAT IT READS IS OF BULK AT MOST 1048576: true; the input reads as it did. -/
def alikeUptoRow : OpenClaim := { program := "ytlncjgnomhpjnabgreatdoor", sum := "5096d9c2fc060816e4d2f5e7ff01bc4f6f3e9dcf49618c045934fbb1634d26d9", func := "reel/reelkeep.Alike", spec := "alike", inPlace := ["internal/abi.NoEscape", "internal/bytealg.MakeNoZero", "(*sync.WaitGroup).Wait", "internal/race.Disable", "sync/atomic.LoadUint64", "internal/race.Enable", "internal/race.Acquire", "internal/synctest.IsAssociated[sync.WaitGroup]", "sync/atomic.CompareAndSwapUint64", "internal/synctest.Disassociate[sync.WaitGroup]", "internal/race.Write", "internal/synctest.IsInBubble", "sync.runtime_SemacquireWaitGroup", "(*sync.WaitGroup).Add", "internal/race.ReleaseMerge", "internal/synctest.Associate[sync.WaitGroup]", "sync.fatal", "sync/atomic.OrUint64", "sync/atomic.AddUint64", "internal/race.Read", "sync/atomic.StoreUint64", "sync.runtime_Semrelease", "(*sync.WaitGroup).Done", "internal/bytealg.IndexByteString", "internal/bytealg.IndexString"], named := ["reel/frame.pairs", "math/bits.deBruijn32tab", "math/bits.deBruijn64tab", "reel/subframe.fixedWeights", "unicode/utf8.first", "unicode/utf8.acceptRanges", "internal/bytealg.MaxLen"], apart := false, laid := [("math/bits.deBruijn32tab", laid_math_bits_deBruijn32tab), ("math/bits.deBruijn64tab", laid_math_bits_deBruijn64tab), ("unicode/utf8.acceptRanges", laid_unicode_utf8_acceptRanges), ("reel/subframe.fixedWeights", laid_reel_subframe_fixedWeights), ("reel/frame.pairs", laid_reel_frame_pairs), ("unicode/utf8.first", laid_unicode_utf8_first)], narrowed := true }
def AlikeUptoSaid : Prop := alikeUptoRow.holds Tryz.pinned (OpenSpec.upto alikeSpec)

/-- 'reellaw.All', WHERE WHAT IT READS IS OF BULK AT MOST 1048576: true; the input reads as it did. -/
def allUptoRow : OpenClaim := { program := "ytlncjgnomhpjnabgreatdoor", sum := "5096d9c2fc060816e4d2f5e7ff01bc4f6f3e9dcf49618c045934fbb1634d26d9", func := "reel/reellaw.All", spec := "all", inPlace := ["internal/abi.NoEscape", "internal/bytealg.IndexByteString", "internal/bytealg.IndexString", "internal/bytealg.MakeNoZero", "(*sync.WaitGroup).Wait", "internal/race.Disable", "sync/atomic.LoadUint64", "internal/race.Enable", "internal/race.Acquire", "internal/synctest.IsAssociated[sync.WaitGroup]", "sync/atomic.CompareAndSwapUint64", "internal/synctest.Disassociate[sync.WaitGroup]", "internal/race.Write", "internal/synctest.IsInBubble", "sync.runtime_SemacquireWaitGroup", "(*sync.WaitGroup).Add", "internal/race.ReleaseMerge", "internal/synctest.Associate[sync.WaitGroup]", "sync.fatal", "sync/atomic.OrUint64", "sync/atomic.AddUint64", "internal/race.Read", "sync/atomic.StoreUint64", "sync.runtime_Semrelease", "(*sync.WaitGroup).Done"], unfollowed := true, recurses := true, named := ["reel/reelref.taken", "math/bits.deBruijn32tab", "math/bits.deBruijn64tab", "reel/subframe.fixedWeights", "reel/frame.pairs", "unicode/utf8.first", "unicode/utf8.acceptRanges", "internal/bytealg.MaxLen"], apart := false, laid := [("math/bits.deBruijn32tab", laid_math_bits_deBruijn32tab), ("math/bits.deBruijn64tab", laid_math_bits_deBruijn64tab), ("reel/reelref.taken", laid_reel_reelref_taken), ("unicode/utf8.acceptRanges", laid_unicode_utf8_acceptRanges), ("reel/subframe.fixedWeights", laid_reel_subframe_fixedWeights), ("reel/frame.pairs", laid_reel_frame_pairs), ("unicode/utf8.first", laid_unicode_utf8_first)], narrowed := true }
def AllUptoSaid : Prop := allUptoRow.holds Tryz.pinned (OpenSpec.upto allSpec)

end Rows
end Go.Proofs.YtlncjgnomhpjnabGreatDoor
