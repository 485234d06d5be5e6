/-
  NARROWER THAN 'FOR EVERY INPUT', by the rows' own cells (each row's printed sentence says how): Frames: laid · Unframes: laid · Encodes: laid · Decodes: laid · Rescues: laid · Lossless: laid · Spoilt: laid.
  DERIVED. THE GIVEN ROWS OF THIS SEAT. 7 by the template 'for every input the law returns true; each argument reads behind the call as it read before'; 0 by the template 'total and deterministic' (their statements: YtlncjgnomhpjnaaGreatDoorTotals.lean).
  GIVEN WITH THE SEED: the statements are not yours to turn. If you find one false, say at which input.
  Laid BY PROGRAM, IN A SANDBOX (cutbox-rows.mjs): the forced cells as the released guide's own fill.sh prints them over the translation 591e967ff815e02f… (all of the seat's roots in one cut). By AI agents, Wed Nov 11 2026. No macro, syntax, notation, axiom, sorry.
-/
import Derived.Test.YtlncjgnomhpjnaaGreatDoorChecked
import GoSem.PinnedTables
import GoSem.Claim
import GoSem.ClaimJoined
import GoSem.ClaimMapViews
import Derived.JoinedTies
import Derived.KernelRfl
namespace Go.Proofs.YtlncjgnomhpjnaaGreatDoor
/- THE CELL 'sum', in the pinned program and in every row, IS THE sha256 OF THE DUMP (.gsa) THAT YtlncjgnomhpjnaaGreatDoorProg.lean LOADS. Nothing in Lean hashes anything: it is a label: what it is worth is what the hold of that sum in a sandbox is worth. -/
noncomputable def Tryz.pinned : Pinned := { name := "ytlncjgnomhpjnaagreatdoor", sum := "591e967ff815e02feaa44886a7083166213ee64099603ffdba4ae156428afdd8", checked := Tryz.checked }
namespace Rows
def none {H : Type} : Left H := { results := [], args := [] }

/- WHAT THE LISTED PACKAGE-LEVEL VARIABLES READ AS WHEN THE CALL BEGINS. Each datum BY PROGRAM (the guide's laid-datum.mjs) off the statement by which the dump's own 'gosem.cut.vars' lays the variable. In a bare row this is a premise. The card (YtlncjgnomhpjnaaGreatDoorCards.lean) ties it to the program's text. -/
def laid_math_bits_deBruijn32tab {H : Type} : DataW H := .agg [.lit (.int .u8 0), .lit (.int .u8 1), .lit (.int .u8 28), .lit (.int .u8 2), .lit (.int .u8 29), .lit (.int .u8 14), .lit (.int .u8 24), .lit (.int .u8 3), .lit (.int .u8 30), .lit (.int .u8 22), .lit (.int .u8 20), .lit (.int .u8 15), .lit (.int .u8 25), .lit (.int .u8 17), .lit (.int .u8 4), .lit (.int .u8 8), .lit (.int .u8 31), .lit (.int .u8 27), .lit (.int .u8 13), .lit (.int .u8 23), .lit (.int .u8 21), .lit (.int .u8 19), .lit (.int .u8 16), .lit (.int .u8 7), .lit (.int .u8 26), .lit (.int .u8 12), .lit (.int .u8 18), .lit (.int .u8 6), .lit (.int .u8 11), .lit (.int .u8 5), .lit (.int .u8 10), .lit (.int .u8 9)]
def laid_math_bits_deBruijn64tab {H : Type} : DataW H := .agg [.lit (.int .u8 0), .lit (.int .u8 1), .lit (.int .u8 56), .lit (.int .u8 2), .lit (.int .u8 57), .lit (.int .u8 49), .lit (.int .u8 28), .lit (.int .u8 3), .lit (.int .u8 61), .lit (.int .u8 58), .lit (.int .u8 42), .lit (.int .u8 50), .lit (.int .u8 38), .lit (.int .u8 29), .lit (.int .u8 17), .lit (.int .u8 4), .lit (.int .u8 62), .lit (.int .u8 47), .lit (.int .u8 59), .lit (.int .u8 36), .lit (.int .u8 45), .lit (.int .u8 43), .lit (.int .u8 51), .lit (.int .u8 22), .lit (.int .u8 53), .lit (.int .u8 39), .lit (.int .u8 33), .lit (.int .u8 30), .lit (.int .u8 24), .lit (.int .u8 18), .lit (.int .u8 12), .lit (.int .u8 5), .lit (.int .u8 63), .lit (.int .u8 55), .lit (.int .u8 48), .lit (.int .u8 27), .lit (.int .u8 60), .lit (.int .u8 41), .lit (.int .u8 37), .lit (.int .u8 16), .lit (.int .u8 46), .lit (.int .u8 35), .lit (.int .u8 44), .lit (.int .u8 21), .lit (.int .u8 52), .lit (.int .u8 32), .lit (.int .u8 23), .lit (.int .u8 11), .lit (.int .u8 54), .lit (.int .u8 26), .lit (.int .u8 40), .lit (.int .u8 15), .lit (.int .u8 34), .lit (.int .u8 20), .lit (.int .u8 31), .lit (.int .u8 10), .lit (.int .u8 25), .lit (.int .u8 14), .lit (.int .u8 19), .lit (.int .u8 9), .lit (.int .u8 13), .lit (.int .u8 8), .lit (.int .u8 7), .lit (.int .u8 6)]
def laid_reel_reelref_taken {H : Type} : DataW H := .agg [.agg [.lit (.int .i64 0), .lit (.int .i64 0), .lit (.int .i64 0), .lit (.int .i64 0)], .agg [.lit (.int .i64 1), .lit (.int .i64 0), .lit (.int .i64 0), .lit (.int .i64 0)], .agg [.lit (.int .i64 2), .lit (.int .i64 (-1)), .lit (.int .i64 0), .lit (.int .i64 0)], .agg [.lit (.int .i64 3), .lit (.int .i64 (-3)), .lit (.int .i64 1), .lit (.int .i64 0)], .agg [.lit (.int .i64 4), .lit (.int .i64 (-6)), .lit (.int .i64 4), .lit (.int .i64 (-1))]]
def laid_reel_subframe_fixedWeights {H : Type} : DataW H := .agg [.agg [.lit (.int .i64 0), .lit (.int .i64 0), .lit (.int .i64 0), .lit (.int .i64 0)], .agg [.lit (.int .i64 1), .lit (.int .i64 0), .lit (.int .i64 0), .lit (.int .i64 0)], .agg [.lit (.int .i64 2), .lit (.int .i64 (-1)), .lit (.int .i64 0), .lit (.int .i64 0)], .agg [.lit (.int .i64 3), .lit (.int .i64 (-3)), .lit (.int .i64 1), .lit (.int .i64 0)], .agg [.lit (.int .i64 4), .lit (.int .i64 (-6)), .lit (.int .i64 4), .lit (.int .i64 (-1))]]
def laid_reel_frame_pairs {H : Type} : DataW H := .agg [.agg [.lit (.int .i64 0), .lit (.int .i64 1)], .agg [.lit (.int .i64 0), .lit (.int .i64 2)], .agg [.lit (.int .i64 2), .lit (.int .i64 1)], .agg [.lit (.int .i64 3), .lit (.int .i64 2)]]
def laid_reel_reellaw_one12 {H : Type} : DataW H := .agg [.lit (.int .u8 165), .lit (.int .u8 0), .lit (.int .u8 1), .lit (.int .u8 0), .lit (.int .u8 12), .lit (.int .u8 0), .lit (.int .u8 0), .lit (.int .u8 25), .lit (.int .u8 0), .lit (.int .u8 16), .lit (.int .u8 217), .lit (.int .u8 212)]
def laid_unicode_utf8_acceptRanges {H : Type} : DataW H := .agg [.agg [.lit (.int .u8 128), .lit (.int .u8 191)], .agg [.lit (.int .u8 160), .lit (.int .u8 191)], .agg [.lit (.int .u8 128), .lit (.int .u8 159)], .agg [.lit (.int .u8 144), .lit (.int .u8 191)], .agg [.lit (.int .u8 128), .lit (.int .u8 143)], .agg [.lit (.int .u8 0), .lit (.int .u8 0)], .agg [.lit (.int .u8 0), .lit (.int .u8 0)], .agg [.lit (.int .u8 0), .lit (.int .u8 0)], .agg [.lit (.int .u8 0), .lit (.int .u8 0)], .agg [.lit (.int .u8 0), .lit (.int .u8 0)], .agg [.lit (.int .u8 0), .lit (.int .u8 0)], .agg [.lit (.int .u8 0), .lit (.int .u8 0)], .agg [.lit (.int .u8 0), .lit (.int .u8 0)], .agg [.lit (.int .u8 0), .lit (.int .u8 0)], .agg [.lit (.int .u8 0), .lit (.int .u8 0)], .agg [.lit (.int .u8 0), .lit (.int .u8 0)]]
/-- One of Go's own tables, pinned by name: the form's constant. -/
def laid_unicode_utf8_first : DataW Unit := Go.Pinned.utf8First
def laid_reel_reellaw_none22 {H : Type} : DataW H := .agg [.lit (.int .u8 82), .lit (.int .u8 76), .lit (.int .u8 1), .lit (.int .u8 1), .lit (.int .u8 4), .lit (.int .u8 1), .lit (.int .u8 0), .lit (.int .u8 0), .lit (.int .u8 0), .lit (.int .u8 0), .lit (.int .u8 0), .lit (.int .u8 0), .lit (.int .u8 0), .lit (.int .u8 0), .lit (.int .u8 0), .lit (.int .u8 0), .lit (.int .u8 0), .lit (.int .u8 0), .lit (.int .u8 1), .lit (.int .u8 158), .lit (.int .u8 139), .lit (.int .u8 66)]

/-- 'reellaw.Frames': WHATEVER THE INPUT: true; the input reads as it did. -/
def framesSpec : ChangeSpec := { name := "frames", fn := fun _ => fun
  | [d1, d2, d3] => { results := [.lit (.bool true)], args := [d1, d2, d3] }
  | _ => none }
def framesRow : OpenClaim := { program := "ytlncjgnomhpjnaagreatdoor", sum := "591e967ff815e02feaa44886a7083166213ee64099603ffdba4ae156428afdd8", func := "reel/reellaw.Frames", spec := "frames", inPlace := ["internal/abi.NoEscape"], named := ["reel/frame.pairs", "math/bits.deBruijn32tab", "math/bits.deBruijn64tab", "reel/subframe.fixedWeights", "reel/reellaw.one12", "reel/reelref.taken"], apart := false, laid := [("math/bits.deBruijn32tab", laid_math_bits_deBruijn32tab), ("math/bits.deBruijn64tab", laid_math_bits_deBruijn64tab), ("reel/reelref.taken", laid_reel_reelref_taken), ("reel/subframe.fixedWeights", laid_reel_subframe_fixedWeights), ("reel/frame.pairs", laid_reel_frame_pairs), ("reel/reellaw.one12", laid_reel_reellaw_one12)] }
def FramesSaid : Prop := framesRow.holds Tryz.pinned (OpenSpec.ofChange framesSpec)

/-- ITS FALSE NEIGHBOUR: 'it returns false'. Refute it at one input. -/
def framesWrong : ChangeSpec := { name := "frames", fn := fun _ => fun
  | [d1, d2, d3] => { results := [.lit (.bool false)], args := [d1, d2, d3] }
  | _ => none }
def FramesWrongFalsely : Prop := framesRow.holds Tryz.pinned (OpenSpec.ofChange framesWrong)

/-- 'reellaw.Unframes': WHATEVER THE INPUT: true; the input reads as it did. -/
def unframesSpec : ChangeSpec := { name := "unframes", fn := fun _ => fun
  | [d1, d2, d3] => { results := [.lit (.bool true)], args := [d1, d2, d3] }
  | _ => none }
def unframesRow : OpenClaim := { program := "ytlncjgnomhpjnaagreatdoor", sum := "591e967ff815e02feaa44886a7083166213ee64099603ffdba4ae156428afdd8", func := "reel/reellaw.Unframes", spec := "unframes", inPlace := ["internal/abi.NoEscape", "internal/bytealg.IndexByteString", "internal/bytealg.IndexString"], named := ["reel/reellaw.one12", "reel/frame.pairs", "reel/subframe.fixedWeights", "unicode/utf8.first", "unicode/utf8.acceptRanges", "reel/reelref.taken", "internal/bytealg.MaxLen"], apart := false, laid := [("reel/reelref.taken", laid_reel_reelref_taken), ("unicode/utf8.acceptRanges", laid_unicode_utf8_acceptRanges), ("reel/subframe.fixedWeights", laid_reel_subframe_fixedWeights), ("reel/frame.pairs", laid_reel_frame_pairs), ("reel/reellaw.one12", laid_reel_reellaw_one12), ("unicode/utf8.first", laid_unicode_utf8_first)] }
def UnframesSaid : Prop := unframesRow.holds Tryz.pinned (OpenSpec.ofChange unframesSpec)

/-- ITS FALSE NEIGHBOUR: 'it returns false'. Refute it at one input. -/
def unframesWrong : ChangeSpec := { name := "unframes", fn := fun _ => fun
  | [d1, d2, d3] => { results := [.lit (.bool false)], args := [d1, d2, d3] }
  | _ => none }
def UnframesWrongFalsely : Prop := unframesRow.holds Tryz.pinned (OpenSpec.ofChange unframesWrong)

/-- 'reellaw.Encodes': WHATEVER THE INPUT: true; the input reads as it did. -/
def encodesSpec : ChangeSpec := { name := "encodes", fn := fun _ => fun
  | [d1, d2] => { results := [.lit (.bool true)], args := [d1, d2] }
  | _ => none }
def encodesRow : OpenClaim := { program := "ytlncjgnomhpjnaagreatdoor", sum := "591e967ff815e02feaa44886a7083166213ee64099603ffdba4ae156428afdd8", func := "reel/reellaw.Encodes", spec := "encodes", inPlace := ["internal/abi.NoEscape", "internal/bytealg.MakeNoZero"], named := ["reel/frame.pairs", "math/bits.deBruijn32tab", "math/bits.deBruijn64tab", "reel/subframe.fixedWeights", "reel/reellaw.none22", "reel/reelref.taken"], apart := false, laid := [("math/bits.deBruijn32tab", laid_math_bits_deBruijn32tab), ("math/bits.deBruijn64tab", laid_math_bits_deBruijn64tab), ("reel/reelref.taken", laid_reel_reelref_taken), ("reel/subframe.fixedWeights", laid_reel_subframe_fixedWeights), ("reel/frame.pairs", laid_reel_frame_pairs), ("reel/reellaw.none22", laid_reel_reellaw_none22)] }
def EncodesSaid : Prop := encodesRow.holds Tryz.pinned (OpenSpec.ofChange encodesSpec)

/-- ITS FALSE NEIGHBOUR: 'it returns false'. Refute it at one input. -/
def encodesWrong : ChangeSpec := { name := "encodes", fn := fun _ => fun
  | [d1, d2] => { results := [.lit (.bool false)], args := [d1, d2] }
  | _ => none }
def EncodesWrongFalsely : Prop := encodesRow.holds Tryz.pinned (OpenSpec.ofChange encodesWrong)

/-- 'reellaw.Decodes': WHATEVER THE INPUT: true; the input reads as it did. -/
def decodesSpec : ChangeSpec := { name := "decodes", fn := fun _ => fun
  | [d] => { results := [.lit (.bool true)], args := [d] }
  | _ => none }
def decodesRow : OpenClaim := { program := "ytlncjgnomhpjnaagreatdoor", sum := "591e967ff815e02feaa44886a7083166213ee64099603ffdba4ae156428afdd8", func := "reel/reellaw.Decodes", spec := "decodes", inPlace := ["internal/abi.NoEscape", "internal/bytealg.IndexByteString", "internal/bytealg.IndexString"], named := ["reel/reellaw.none22", "reel/frame.pairs", "reel/subframe.fixedWeights", "unicode/utf8.first", "unicode/utf8.acceptRanges", "reel/reelref.taken", "internal/bytealg.MaxLen"], apart := false, laid := [("reel/reelref.taken", laid_reel_reelref_taken), ("unicode/utf8.acceptRanges", laid_unicode_utf8_acceptRanges), ("reel/subframe.fixedWeights", laid_reel_subframe_fixedWeights), ("reel/frame.pairs", laid_reel_frame_pairs), ("reel/reellaw.none22", laid_reel_reellaw_none22), ("unicode/utf8.first", laid_unicode_utf8_first)] }
def DecodesSaid : Prop := decodesRow.holds Tryz.pinned (OpenSpec.ofChange decodesSpec)

/-- ITS FALSE NEIGHBOUR: 'it returns false'. Refute it at one input. -/
def decodesWrong : ChangeSpec := { name := "decodes", fn := fun _ => fun
  | [d] => { results := [.lit (.bool false)], args := [d] }
  | _ => none }
def DecodesWrongFalsely : Prop := decodesRow.holds Tryz.pinned (OpenSpec.ofChange decodesWrong)

/-- 'reellaw.Rescues': WHATEVER THE INPUT: true; the input reads as it did. -/
def rescuesSpec : ChangeSpec := { name := "rescues", fn := fun _ => fun
  | [d1, d2] => { results := [.lit (.bool true)], args := [d1, d2] }
  | _ => none }
def rescuesRow : OpenClaim := { program := "ytlncjgnomhpjnaagreatdoor", sum := "591e967ff815e02feaa44886a7083166213ee64099603ffdba4ae156428afdd8", func := "reel/reellaw.Rescues", spec := "rescues", inPlace := ["internal/abi.NoEscape", "internal/bytealg.IndexByteString", "internal/bytealg.IndexString"], named := ["reel/reellaw.none22", "reel/frame.pairs", "reel/subframe.fixedWeights", "unicode/utf8.first", "unicode/utf8.acceptRanges", "reel/reelref.taken", "internal/bytealg.MaxLen"], apart := false, laid := [("reel/reelref.taken", laid_reel_reelref_taken), ("unicode/utf8.acceptRanges", laid_unicode_utf8_acceptRanges), ("reel/subframe.fixedWeights", laid_reel_subframe_fixedWeights), ("reel/frame.pairs", laid_reel_frame_pairs), ("reel/reellaw.none22", laid_reel_reellaw_none22), ("unicode/utf8.first", laid_unicode_utf8_first)] }
def RescuesSaid : Prop := rescuesRow.holds Tryz.pinned (OpenSpec.ofChange rescuesSpec)

/-- ITS FALSE NEIGHBOUR: 'it returns false'. Refute it at one input. -/
def rescuesWrong : ChangeSpec := { name := "rescues", fn := fun _ => fun
  | [d1, d2] => { results := [.lit (.bool false)], args := [d1, d2] }
  | _ => none }
def RescuesWrongFalsely : Prop := rescuesRow.holds Tryz.pinned (OpenSpec.ofChange rescuesWrong)

/-- 'reelkeep.Lossless': WHATEVER THE INPUT: true; the input reads as it did. -/
def losslessSpec : ChangeSpec := { name := "lossless", fn := fun _ => fun
  | [d1, d2, d3] => { results := [.lit (.bool true)], args := [d1, d2, d3] }
  | _ => none }
def losslessRow : OpenClaim := { program := "ytlncjgnomhpjnaagreatdoor", sum := "591e967ff815e02feaa44886a7083166213ee64099603ffdba4ae156428afdd8", func := "reel/reelkeep.Lossless", spec := "lossless", inPlace := ["internal/abi.NoEscape", "internal/bytealg.MakeNoZero", "internal/bytealg.IndexByteString", "internal/bytealg.IndexString"], named := ["reel/frame.pairs", "math/bits.deBruijn32tab", "math/bits.deBruijn64tab", "reel/subframe.fixedWeights", "unicode/utf8.first", "unicode/utf8.acceptRanges", "internal/bytealg.MaxLen"], apart := false, laid := [("math/bits.deBruijn32tab", laid_math_bits_deBruijn32tab), ("math/bits.deBruijn64tab", laid_math_bits_deBruijn64tab), ("unicode/utf8.acceptRanges", laid_unicode_utf8_acceptRanges), ("reel/subframe.fixedWeights", laid_reel_subframe_fixedWeights), ("reel/frame.pairs", laid_reel_frame_pairs), ("unicode/utf8.first", laid_unicode_utf8_first)] }
def LosslessSaid : Prop := losslessRow.holds Tryz.pinned (OpenSpec.ofChange losslessSpec)

/-- ITS FALSE NEIGHBOUR: 'it returns false'. Refute it at one input. -/
def losslessWrong : ChangeSpec := { name := "lossless", fn := fun _ => fun
  | [d1, d2, d3] => { results := [.lit (.bool false)], args := [d1, d2, d3] }
  | _ => none }
def LosslessWrongFalsely : Prop := losslessRow.holds Tryz.pinned (OpenSpec.ofChange losslessWrong)

/-- 'reelkeep.Spoilt': WHATEVER THE INPUT: true; the input reads as it did. -/
def spoiltSpec : ChangeSpec := { name := "spoilt", fn := fun _ => fun
  | [d1, d2, d3, d4] => { results := [.lit (.bool true)], args := [d1, d2, d3, d4] }
  | _ => none }
def spoiltRow : OpenClaim := { program := "ytlncjgnomhpjnaagreatdoor", sum := "591e967ff815e02feaa44886a7083166213ee64099603ffdba4ae156428afdd8", func := "reel/reelkeep.Spoilt", spec := "spoilt", inPlace := ["internal/abi.NoEscape", "internal/bytealg.MakeNoZero", "internal/bytealg.IndexByteString", "internal/bytealg.IndexString"], named := ["reel/frame.pairs", "math/bits.deBruijn32tab", "math/bits.deBruijn64tab", "reel/subframe.fixedWeights", "unicode/utf8.first", "unicode/utf8.acceptRanges", "internal/bytealg.MaxLen"], apart := false, laid := [("math/bits.deBruijn32tab", laid_math_bits_deBruijn32tab), ("math/bits.deBruijn64tab", laid_math_bits_deBruijn64tab), ("unicode/utf8.acceptRanges", laid_unicode_utf8_acceptRanges), ("reel/subframe.fixedWeights", laid_reel_subframe_fixedWeights), ("reel/frame.pairs", laid_reel_frame_pairs), ("unicode/utf8.first", laid_unicode_utf8_first)] }
def SpoiltSaid : Prop := spoiltRow.holds Tryz.pinned (OpenSpec.ofChange spoiltSpec)

/-- ITS FALSE NEIGHBOUR: 'it returns false'. Refute it at one input. -/
def spoiltWrong : ChangeSpec := { name := "spoilt", fn := fun _ => fun
  | [d1, d2, d3, d4] => { results := [.lit (.bool false)], args := [d1, d2, d3, d4] }
  | _ => none }
def SpoiltWrongFalsely : Prop := spoiltRow.holds Tryz.pinned (OpenSpec.ofChange spoiltWrong)

/- THE SECOND FORM. 'bulk': how many values and letters a reading holds, each counted each time it is reached (what is shared counts as often as it is met; a slice's spare places count too). A statement '..UptoSaid' is the law's where the arguments, and the package variables that the reading takes, are together of bulk at most 1048576: NARROWER than '..Said'. Prove '..Said' where nothing that the law and all that it calls make is longer than what came in: it says more and counts as full. Else prove '..UptoSaid'. A law counts once. -/
mutual
def uptoBulk {H : Type} : DataW H → Nat
  | .lit (.string bytes) => bytes.length + 1
  | .lit _ => 1
  | .nil => 1
  | .ptr d => uptoBulk d + 1
  | .slice elems spare => uptoBulkAll elems + uptoBulkAll spare + 1
  | .agg parts => uptoBulkAll parts + 1
  | .iface _ d => uptoBulk d + 1
  | .map entries => uptoBulkEntries entries + 1
  | .held _ => 1
def uptoBulkAll {H : Type} : List (DataW H) → Nat
  | [] => 0
  | d :: r => uptoBulk d + uptoBulkAll r
def uptoBulkEntries {H : Type} : List (Lit × DataW H) → Nat
  | [] => 0
  | x :: r => uptoBulkEntry x + uptoBulkEntries r
def uptoBulkEntry {H : Type} : Lit × DataW H → Nat
  | (.string bytes, d) => bytes.length + uptoBulk d + 1
  | (_, d) => uptoBulk d + 1
 end
def uptoSmall : (H : Type) → List (DataW H) → Bool := fun _ ds => decide (uptoBulkAll ds ≤ 1048576)
def OpenSpec.upto (s : _root_.Go.ChangeSpec) : _root_.Go.OpenSpec := { _root_.Go.OpenSpec.ofChange s with cond := some uptoSmall }

/-- 'reellaw.Frames', WHERE WHAT IT READS IS OF BULK AT MOST 1048576: true; the input reads as it did. -/
def framesUptoRow : OpenClaim := { program := "ytlncjgnomhpjnaagreatdoor", sum := "591e967ff815e02feaa44886a7083166213ee64099603ffdba4ae156428afdd8", func := "reel/reellaw.Frames", spec := "frames", inPlace := ["internal/abi.NoEscape"], named := ["reel/frame.pairs", "math/bits.deBruijn32tab", "math/bits.deBruijn64tab", "reel/subframe.fixedWeights", "reel/reellaw.one12", "reel/reelref.taken"], apart := false, laid := [("math/bits.deBruijn32tab", laid_math_bits_deBruijn32tab), ("math/bits.deBruijn64tab", laid_math_bits_deBruijn64tab), ("reel/reelref.taken", laid_reel_reelref_taken), ("reel/subframe.fixedWeights", laid_reel_subframe_fixedWeights), ("reel/frame.pairs", laid_reel_frame_pairs), ("reel/reellaw.one12", laid_reel_reellaw_one12)], narrowed := true }
def FramesUptoSaid : Prop := framesUptoRow.holds Tryz.pinned (OpenSpec.upto framesSpec)

/-- 'reellaw.Unframes', WHERE WHAT IT READS IS OF BULK AT MOST 1048576: true; the input reads as it did. -/
def unframesUptoRow : OpenClaim := { program := "ytlncjgnomhpjnaagreatdoor", sum := "591e967ff815e02feaa44886a7083166213ee64099603ffdba4ae156428afdd8", func := "reel/reellaw.Unframes", spec := "unframes", inPlace := ["internal/abi.NoEscape", "internal/bytealg.IndexByteString", "internal/bytealg.IndexString"], named := ["reel/reellaw.one12", "reel/frame.pairs", "reel/subframe.fixedWeights", "unicode/utf8.first", "unicode/utf8.acceptRanges", "reel/reelref.taken", "internal/bytealg.MaxLen"], apart := false, laid := [("reel/reelref.taken", laid_reel_reelref_taken), ("unicode/utf8.acceptRanges", laid_unicode_utf8_acceptRanges), ("reel/subframe.fixedWeights", laid_reel_subframe_fixedWeights), ("reel/frame.pairs", laid_reel_frame_pairs), ("reel/reellaw.one12", laid_reel_reellaw_one12), ("unicode/utf8.first", laid_unicode_utf8_first)], narrowed := true }
def UnframesUptoSaid : Prop := unframesUptoRow.holds Tryz.pinned (OpenSpec.upto unframesSpec)

/-- 'reellaw.Encodes', WHERE WHAT IT READS IS OF BULK AT MOST 1048576: true; the input reads as it did. -/
def encodesUptoRow : OpenClaim := { program := "ytlncjgnomhpjnaagreatdoor", sum := "591e967ff815e02feaa44886a7083166213ee64099603ffdba4ae156428afdd8", func := "reel/reellaw.Encodes", spec := "encodes", inPlace := ["internal/abi.NoEscape", "internal/bytealg.MakeNoZero"], named := ["reel/frame.pairs", "math/bits.deBruijn32tab", "math/bits.deBruijn64tab", "reel/subframe.fixedWeights", "reel/reellaw.none22", "reel/reelref.taken"], apart := false, laid := [("math/bits.deBruijn32tab", laid_math_bits_deBruijn32tab), ("math/bits.deBruijn64tab", laid_math_bits_deBruijn64tab), ("reel/reelref.taken", laid_reel_reelref_taken), ("reel/subframe.fixedWeights", laid_reel_subframe_fixedWeights), ("reel/frame.pairs", laid_reel_frame_pairs), ("reel/reellaw.none22", laid_reel_reellaw_none22)], narrowed := true }
def EncodesUptoSaid : Prop := encodesUptoRow.holds Tryz.pinned (OpenSpec.upto encodesSpec)

/-- 'reellaw.Decodes', WHERE WHAT IT READS IS OF BULK AT MOST 1048576: true; the input reads as it did. -/
def decodesUptoRow : OpenClaim := { program := "ytlncjgnomhpjnaagreatdoor", sum := "591e967ff815e02feaa44886a7083166213ee64099603ffdba4ae156428afdd8", func := "reel/reellaw.Decodes", spec := "decodes", inPlace := ["internal/abi.NoEscape", "internal/bytealg.IndexByteString", "internal/bytealg.IndexString"], named := ["reel/reellaw.none22", "reel/frame.pairs", "reel/subframe.fixedWeights", "unicode/utf8.first", "unicode/utf8.acceptRanges", "reel/reelref.taken", "internal/bytealg.MaxLen"], apart := false, laid := [("reel/reelref.taken", laid_reel_reelref_taken), ("unicode/utf8.acceptRanges", laid_unicode_utf8_acceptRanges), ("reel/subframe.fixedWeights", laid_reel_subframe_fixedWeights), ("reel/frame.pairs", laid_reel_frame_pairs), ("reel/reellaw.none22", laid_reel_reellaw_none22), ("unicode/utf8.first", laid_unicode_utf8_first)], narrowed := true }
def DecodesUptoSaid : Prop := decodesUptoRow.holds Tryz.pinned (OpenSpec.upto decodesSpec)

/-- 'reellaw.Rescues', WHERE WHAT IT READS IS OF BULK AT MOST 1048576: true; the input reads as it did. -/
def rescuesUptoRow : OpenClaim := { program := "ytlncjgnomhpjnaagreatdoor", sum := "591e967ff815e02feaa44886a7083166213ee64099603ffdba4ae156428afdd8", func := "reel/reellaw.Rescues", spec := "rescues", inPlace := ["internal/abi.NoEscape", "internal/bytealg.IndexByteString", "internal/bytealg.IndexString"], named := ["reel/reellaw.none22", "reel/frame.pairs", "reel/subframe.fixedWeights", "unicode/utf8.first", "unicode/utf8.acceptRanges", "reel/reelref.taken", "internal/bytealg.MaxLen"], apart := false, laid := [("reel/reelref.taken", laid_reel_reelref_taken), ("unicode/utf8.acceptRanges", laid_unicode_utf8_acceptRanges), ("reel/subframe.fixedWeights", laid_reel_subframe_fixedWeights), ("reel/frame.pairs", laid_reel_frame_pairs), ("reel/reellaw.none22", laid_reel_reellaw_none22), ("unicode/utf8.first", laid_unicode_utf8_first)], narrowed := true }
def RescuesUptoSaid : Prop := rescuesUptoRow.holds Tryz.pinned (OpenSpec.upto rescuesSpec)

/-- 'reelkeep.Lossless', WHERE WHAT IT READS IS OF BULK AT MOST 1048576: true; the input reads as it did. -/
def losslessUptoRow : OpenClaim := { program := "ytlncjgnomhpjnaagreatdoor", sum := "591e967ff815e02feaa44886a7083166213ee64099603ffdba4ae156428afdd8", func := "reel/reelkeep.Lossless", spec := "lossless", inPlace := ["internal/abi.NoEscape", "internal/bytealg.MakeNoZero", "internal/bytealg.IndexByteString", "internal/bytealg.IndexString"], named := ["reel/frame.pairs", "math/bits.deBruijn32tab", "math/bits.deBruijn64tab", "reel/subframe.fixedWeights", "unicode/utf8.first", "unicode/utf8.acceptRanges", "internal/bytealg.MaxLen"], apart := false, laid := [("math/bits.deBruijn32tab", laid_math_bits_deBruijn32tab), ("math/bits.deBruijn64tab", laid_math_bits_deBruijn64tab), ("unicode/utf8.acceptRanges", laid_unicode_utf8_acceptRanges), ("reel/subframe.fixedWeights", laid_reel_subframe_fixedWeights), ("reel/frame.pairs", laid_reel_frame_pairs), ("unicode/utf8.first", laid_unicode_utf8_first)], narrowed := true }
def LosslessUptoSaid : Prop := losslessUptoRow.holds Tryz.pinned (OpenSpec.upto losslessSpec)

/-- 'reelkeep.Spoilt', WHERE WHAT IT READS IS OF BULK AT MOST 1048576: true; the input reads as it did. -/
def spoiltUptoRow : OpenClaim := { program := "ytlncjgnomhpjnaagreatdoor", sum := "591e967ff815e02feaa44886a7083166213ee64099603ffdba4ae156428afdd8", func := "reel/reelkeep.Spoilt", spec := "spoilt", inPlace := ["internal/abi.NoEscape", "internal/bytealg.MakeNoZero", "internal/bytealg.IndexByteString", "internal/bytealg.IndexString"], named := ["reel/frame.pairs", "math/bits.deBruijn32tab", "math/bits.deBruijn64tab", "reel/subframe.fixedWeights", "unicode/utf8.first", "unicode/utf8.acceptRanges", "internal/bytealg.MaxLen"], apart := false, laid := [("math/bits.deBruijn32tab", laid_math_bits_deBruijn32tab), ("math/bits.deBruijn64tab", laid_math_bits_deBruijn64tab), ("unicode/utf8.acceptRanges", laid_unicode_utf8_acceptRanges), ("reel/subframe.fixedWeights", laid_reel_subframe_fixedWeights), ("reel/frame.pairs", laid_reel_frame_pairs), ("unicode/utf8.first", laid_unicode_utf8_first)], narrowed := true }
def SpoiltUptoSaid : Prop := spoiltUptoRow.holds Tryz.pinned (OpenSpec.upto spoiltSpec)

end Rows
end Go.Proofs.YtlncjgnomhpjnaaGreatDoor
