/-
  No cell of these rows narrows 'for every input' (looked for: loops, veiled, ifaces, maps, wideKeys, modest, calm, conditions, laid).
  DERIVED. THE GIVEN ROWS OF THIS SEAT. 7 by the template 'for every input the law returns true; each argument reads behind the call as it read before'; 0 by the template 'total and deterministic' (their statements: YtllbjabnoicdfaaTotals.lean).
  GIVEN WITH THE SEED: the statements are not yours to turn. If you find one false, say at which input.
  Laid BY PROGRAM, IN A SANDBOX (cutbox-rows.mjs): the forced cells as the released guide's own fill.sh prints them over the translation b99f8d446087d6d9… (all of the seat's roots in one cut). By AI agents, Wed Nov 11 2026. No macro, syntax, notation, axiom, sorry.
-/
import Derived.Test.YtllbjabnoicdfaaChecked
import GoSem.Claim
import GoSem.ClaimJoined
import GoSem.ClaimMapViews
import Derived.JoinedTies
import Derived.KernelRfl
namespace Go.Proofs.Ytllbjabnoicdfaa
/- THE CELL 'sum', in the pinned program and in every row, IS THE sha256 OF THE DUMP (.gsa) THAT YtllbjabnoicdfaaProg.lean LOADS. Nothing in Lean hashes anything: it is a label: what it is worth is what the hold of that sum in a sandbox is worth. -/
noncomputable def Try.pinned : Pinned := { name := "ytllbjabnoicdfaa", sum := "b99f8d446087d6d90b9e2208407290a6766eb1318f29def70ec641df30152b4a", checked := Try.checked }
namespace Rows
def none {H : Type} : Left H := { results := [], args := [] }

/-- 'dasdlaw10.FixedPacks': WHATEVER THE INPUT: true; the input reads as it did. -/
def fixedPacksSpec : ChangeSpec := { name := "fixedPacks", fn := fun _ => fun
  | [d1, d2, d3] => { results := [.lit (.bool true)], args := [d1, d2, d3] }
  | _ => none }
def fixedPacksRow : OpenClaim := { program := "ytllbjabnoicdfaa", sum := "b99f8d446087d6d90b9e2208407290a6766eb1318f29def70ec641df30152b4a", func := "dasd/dasdlaw10.FixedPacks", spec := "fixedPacks", inPlace := ["internal/abi.NoEscape", "internal/bytealg.MakeNoZero"], unfollowed := true, recurses := true, apart := false }
def FixedPacksSaid : Prop := fixedPacksRow.holds Try.pinned (OpenSpec.ofChange fixedPacksSpec)

/-- ITS FALSE NEIGHBOUR: 'it returns false'. Refute it at one input. -/
def fixedPacksWrong : ChangeSpec := { name := "fixedPacks", fn := fun _ => fun
  | [d1, d2, d3] => { results := [.lit (.bool false)], args := [d1, d2, d3] }
  | _ => none }
def FixedPacksWrongFalsely : Prop := fixedPacksRow.holds Try.pinned (OpenSpec.ofChange fixedPacksWrong)

/-- 'dasdlaw10.FixedUnpacks': WHATEVER THE INPUT: true; the input reads as it did. -/
def fixedUnpacksSpec : ChangeSpec := { name := "fixedUnpacks", fn := fun _ => fun
  | [d1, d2, d3] => { results := [.lit (.bool true)], args := [d1, d2, d3] }
  | _ => none }
def fixedUnpacksRow : OpenClaim := { program := "ytllbjabnoicdfaa", sum := "b99f8d446087d6d90b9e2208407290a6766eb1318f29def70ec641df30152b4a", func := "dasd/dasdlaw10.FixedUnpacks", spec := "fixedUnpacks", inPlace := ["internal/abi.NoEscape", "internal/bytealg.MakeNoZero"], unfollowed := true, recurses := true, apart := false }
def FixedUnpacksSaid : Prop := fixedUnpacksRow.holds Try.pinned (OpenSpec.ofChange fixedUnpacksSpec)

/-- ITS FALSE NEIGHBOUR: 'it returns false'. Refute it at one input. -/
def fixedUnpacksWrong : ChangeSpec := { name := "fixedUnpacks", fn := fun _ => fun
  | [d1, d2, d3] => { results := [.lit (.bool false)], args := [d1, d2, d3] }
  | _ => none }
def FixedUnpacksWrongFalsely : Prop := fixedUnpacksRow.holds Try.pinned (OpenSpec.ofChange fixedUnpacksWrong)

/-- 'dasdlaw10.FixedAdds': WHATEVER THE INPUT: true; the input reads as it did. -/
def fixedAddsSpec : ChangeSpec := { name := "fixedAdds", fn := fun _ => fun
  | [d1, d2, d3, d4] => { results := [.lit (.bool true)], args := [d1, d2, d3, d4] }
  | _ => none }
def fixedAddsRow : OpenClaim := { program := "ytllbjabnoicdfaa", sum := "b99f8d446087d6d90b9e2208407290a6766eb1318f29def70ec641df30152b4a", func := "dasd/dasdlaw10.FixedAdds", spec := "fixedAdds", inPlace := ["internal/abi.NoEscape", "internal/bytealg.MakeNoZero"], unfollowed := true, recurses := true, apart := false }
def FixedAddsSaid : Prop := fixedAddsRow.holds Try.pinned (OpenSpec.ofChange fixedAddsSpec)

/-- ITS FALSE NEIGHBOUR: 'it returns false'. Refute it at one input. -/
def fixedAddsWrong : ChangeSpec := { name := "fixedAdds", fn := fun _ => fun
  | [d1, d2, d3, d4] => { results := [.lit (.bool false)], args := [d1, d2, d3, d4] }
  | _ => none }
def FixedAddsWrongFalsely : Prop := fixedAddsRow.holds Try.pinned (OpenSpec.ofChange fixedAddsWrong)

/-- 'dasdlaw10.FixedReturns': WHATEVER THE INPUT: true; the input reads as it did. -/
def fixedReturnsSpec : ChangeSpec := { name := "fixedReturns", fn := fun _ => fun
  | [d1, d2, d3] => { results := [.lit (.bool true)], args := [d1, d2, d3] }
  | _ => none }
def fixedReturnsRow : OpenClaim := { program := "ytllbjabnoicdfaa", sum := "b99f8d446087d6d90b9e2208407290a6766eb1318f29def70ec641df30152b4a", func := "dasd/dasdlaw10.FixedReturns", spec := "fixedReturns", inPlace := ["internal/abi.NoEscape", "internal/bytealg.MakeNoZero"], unfollowed := true, recurses := true, apart := false }
def FixedReturnsSaid : Prop := fixedReturnsRow.holds Try.pinned (OpenSpec.ofChange fixedReturnsSpec)

/-- ITS FALSE NEIGHBOUR: 'it returns false'. Refute it at one input. -/
def fixedReturnsWrong : ChangeSpec := { name := "fixedReturns", fn := fun _ => fun
  | [d1, d2, d3] => { results := [.lit (.bool false)], args := [d1, d2, d3] }
  | _ => none }
def FixedReturnsWrongFalsely : Prop := fixedReturnsRow.holds Try.pinned (OpenSpec.ofChange fixedReturnsWrong)

/-- 'dasdlaw10.FixedStrict': WHATEVER THE INPUT: true; the input reads as it did. -/
def fixedStrictSpec : ChangeSpec := { name := "fixedStrict", fn := fun _ => fun
  | [d1, d2, d3] => { results := [.lit (.bool true)], args := [d1, d2, d3] }
  | _ => none }
def fixedStrictRow : OpenClaim := { program := "ytllbjabnoicdfaa", sum := "b99f8d446087d6d90b9e2208407290a6766eb1318f29def70ec641df30152b4a", func := "dasd/dasdlaw10.FixedStrict", spec := "fixedStrict", inPlace := ["internal/abi.NoEscape", "internal/bytealg.MakeNoZero"], unfollowed := true, recurses := true, apart := false }
def FixedStrictSaid : Prop := fixedStrictRow.holds Try.pinned (OpenSpec.ofChange fixedStrictSpec)

/-- ITS FALSE NEIGHBOUR: 'it returns false'. Refute it at one input. -/
def fixedStrictWrong : ChangeSpec := { name := "fixedStrict", fn := fun _ => fun
  | [d1, d2, d3] => { results := [.lit (.bool false)], args := [d1, d2, d3] }
  | _ => none }
def FixedStrictWrongFalsely : Prop := fixedStrictRow.holds Try.pinned (OpenSpec.ofChange fixedStrictWrong)

/-- 'dasdlaw10.FixedBuilds': WHATEVER THE INPUT: true; the input reads as it did. -/
def fixedBuildsSpec : ChangeSpec := { name := "fixedBuilds", fn := fun _ => fun
  | [d1, d2, d3] => { results := [.lit (.bool true)], args := [d1, d2, d3] }
  | _ => none }
def fixedBuildsRow : OpenClaim := { program := "ytllbjabnoicdfaa", sum := "b99f8d446087d6d90b9e2208407290a6766eb1318f29def70ec641df30152b4a", func := "dasd/dasdlaw10.FixedBuilds", spec := "fixedBuilds", inPlace := ["internal/abi.NoEscape", "internal/bytealg.MakeNoZero"], unfollowed := true, recurses := true, apart := false }
def FixedBuildsSaid : Prop := fixedBuildsRow.holds Try.pinned (OpenSpec.ofChange fixedBuildsSpec)

/-- ITS FALSE NEIGHBOUR: 'it returns false'. Refute it at one input. -/
def fixedBuildsWrong : ChangeSpec := { name := "fixedBuilds", fn := fun _ => fun
  | [d1, d2, d3] => { results := [.lit (.bool false)], args := [d1, d2, d3] }
  | _ => none }
def FixedBuildsWrongFalsely : Prop := fixedBuildsRow.holds Try.pinned (OpenSpec.ofChange fixedBuildsWrong)

/-- 'dasdlaw10.FixedPads': WHATEVER THE INPUT: true; the input reads as it did. -/
def fixedPadsSpec : ChangeSpec := { name := "fixedPads", fn := fun _ => fun
  | [d1, d2] => { results := [.lit (.bool true)], args := [d1, d2] }
  | _ => none }
def fixedPadsRow : OpenClaim := { program := "ytllbjabnoicdfaa", sum := "b99f8d446087d6d90b9e2208407290a6766eb1318f29def70ec641df30152b4a", func := "dasd/dasdlaw10.FixedPads", spec := "fixedPads", inPlace := ["internal/abi.NoEscape", "internal/bytealg.MakeNoZero"], unfollowed := true, recurses := true, apart := false }
def FixedPadsSaid : Prop := fixedPadsRow.holds Try.pinned (OpenSpec.ofChange fixedPadsSpec)

/-- ITS FALSE NEIGHBOUR: 'it returns false'. Refute it at one input. -/
def fixedPadsWrong : ChangeSpec := { name := "fixedPads", fn := fun _ => fun
  | [d1, d2] => { results := [.lit (.bool false)], args := [d1, d2] }
  | _ => none }
def FixedPadsWrongFalsely : Prop := fixedPadsRow.holds Try.pinned (OpenSpec.ofChange fixedPadsWrong)

/- THE SECOND FORM. 'bulk': how many values and letters a reading holds, each counted each time it is reached (what is shared counts as often as it is met; a slice's spare places count too). A statement '..UptoSaid' is the law's where the arguments, and the package variables that the reading takes, are together of bulk at most 1048576: NARROWER than '..Said'. Prove '..Said' where nothing that the law and all that it calls make is longer than what came in: it says more and counts as full. Else prove '..UptoSaid'. A law counts once. -/
mutual
def uptoBulk {H : Type} : DataW H → Nat
  | .lit (.string bytes) => bytes.length + 1
  | .lit _ => 1
  | .nil => 1
  | .ptr d => uptoBulk d + 1
  | .slice elems spare => uptoBulkAll elems + uptoBulkAll spare + 1
  | .agg parts => uptoBulkAll parts + 1
  | .iface _ d => uptoBulk d + 1
  | .map entries => uptoBulkEntries entries + 1
  | .held _ => 1
def uptoBulkAll {H : Type} : List (DataW H) → Nat
  | [] => 0
  | d :: r => uptoBulk d + uptoBulkAll r
def uptoBulkEntries {H : Type} : List (Lit × DataW H) → Nat
  | [] => 0
  | x :: r => uptoBulkEntry x + uptoBulkEntries r
def uptoBulkEntry {H : Type} : Lit × DataW H → Nat
  | (.string bytes, d) => bytes.length + uptoBulk d + 1
  | (_, d) => uptoBulk d + 1
 end
def uptoSmall : (H : Type) → List (DataW H) → Bool := fun _ ds => decide (uptoBulkAll ds ≤ 1048576)
def OpenSpec.upto (s : _root_.Go.ChangeSpec) : _root_.Go.OpenSpec := { _root_.Go.OpenSpec.ofChange s with cond := some uptoSmall }

/-- 'dasdlaw10.FixedPacks', WHERE WHAT IT READS IS OF BULK AT MOST 1048576: true; the input reads as it did. -/
def fixedPacksUptoRow : OpenClaim := { program := "ytllbjabnoicdfaa", sum := "b99f8d446087d6d90b9e2208407290a6766eb1318f29def70ec641df30152b4a", func := "dasd/dasdlaw10.FixedPacks", spec := "fixedPacks", inPlace := ["internal/abi.NoEscape", "internal/bytealg.MakeNoZero"], unfollowed := true, recurses := true, apart := false, narrowed := true }
def FixedPacksUptoSaid : Prop := fixedPacksUptoRow.holds Try.pinned (OpenSpec.upto fixedPacksSpec)

/-- 'dasdlaw10.FixedUnpacks', WHERE WHAT IT READS IS OF BULK AT MOST 1048576: true; the input reads as it did. -/
def fixedUnpacksUptoRow : OpenClaim := { program := "ytllbjabnoicdfaa", sum := "b99f8d446087d6d90b9e2208407290a6766eb1318f29def70ec641df30152b4a", func := "dasd/dasdlaw10.FixedUnpacks", spec := "fixedUnpacks", inPlace := ["internal/abi.NoEscape", "internal/bytealg.MakeNoZero"], unfollowed := true, recurses := true, apart := false, narrowed := true }
def FixedUnpacksUptoSaid : Prop := fixedUnpacksUptoRow.holds Try.pinned (OpenSpec.upto fixedUnpacksSpec)

/-- 'dasdlaw10.FixedAdds', WHERE WHAT IT READS IS OF BULK AT MOST 1048576: true; the input reads as it did. -/
def fixedAddsUptoRow : OpenClaim := { program := "ytllbjabnoicdfaa", sum := "b99f8d446087d6d90b9e2208407290a6766eb1318f29def70ec641df30152b4a", func := "dasd/dasdlaw10.FixedAdds", spec := "fixedAdds", inPlace := ["internal/abi.NoEscape", "internal/bytealg.MakeNoZero"], unfollowed := true, recurses := true, apart := false, narrowed := true }
def FixedAddsUptoSaid : Prop := fixedAddsUptoRow.holds Try.pinned (OpenSpec.upto fixedAddsSpec)

/-- 'dasdlaw10.FixedReturns', WHERE WHAT IT READS IS OF BULK AT MOST 1048576: true; the input reads as it did. -/
def fixedReturnsUptoRow : OpenClaim := { program := "ytllbjabnoicdfaa", sum := "b99f8d446087d6d90b9e2208407290a6766eb1318f29def70ec641df30152b4a", func := "dasd/dasdlaw10.FixedReturns", spec := "fixedReturns", inPlace := ["internal/abi.NoEscape", "internal/bytealg.MakeNoZero"], unfollowed := true, recurses := true, apart := false, narrowed := true }
def FixedReturnsUptoSaid : Prop := fixedReturnsUptoRow.holds Try.pinned (OpenSpec.upto fixedReturnsSpec)

/-- 'dasdlaw10.FixedStrict', WHERE WHAT IT READS IS OF BULK AT MOST 1048576: true; the input reads as it did. -/
def fixedStrictUptoRow : OpenClaim := { program := "ytllbjabnoicdfaa", sum := "b99f8d446087d6d90b9e2208407290a6766eb1318f29def70ec641df30152b4a", func := "dasd/dasdlaw10.FixedStrict", spec := "fixedStrict", inPlace := ["internal/abi.NoEscape", "internal/bytealg.MakeNoZero"], unfollowed := true, recurses := true, apart := false, narrowed := true }
def FixedStrictUptoSaid : Prop := fixedStrictUptoRow.holds Try.pinned (OpenSpec.upto fixedStrictSpec)

/-- 'dasdlaw10.FixedBuilds', WHERE WHAT IT READS IS OF BULK AT MOST 1048576: true; the input reads as it did. -/
def fixedBuildsUptoRow : OpenClaim := { program := "ytllbjabnoicdfaa", sum := "b99f8d446087d6d90b9e2208407290a6766eb1318f29def70ec641df30152b4a", func := "dasd/dasdlaw10.FixedBuilds", spec := "fixedBuilds", inPlace := ["internal/abi.NoEscape", "internal/bytealg.MakeNoZero"], unfollowed := true, recurses := true, apart := false, narrowed := true }
def FixedBuildsUptoSaid : Prop := fixedBuildsUptoRow.holds Try.pinned (OpenSpec.upto fixedBuildsSpec)

/-- 'dasdlaw10.FixedPads', WHERE WHAT IT READS IS OF BULK AT MOST 1048576: true; the input reads as it did. -/
def fixedPadsUptoRow : OpenClaim := { program := "ytllbjabnoicdfaa", sum := "b99f8d446087d6d90b9e2208407290a6766eb1318f29def70ec641df30152b4a", func := "dasd/dasdlaw10.FixedPads", spec := "fixedPads", inPlace := ["internal/abi.NoEscape", "internal/bytealg.MakeNoZero"], unfollowed := true, recurses := true, apart := false, narrowed := true }
def FixedPadsUptoSaid : Prop := fixedPadsUptoRow.holds Try.pinned (OpenSpec.upto fixedPadsSpec)

end Rows
end Go.Proofs.Ytllbjabnoicdfaa
