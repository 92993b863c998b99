/-
  No cell of these rows narrows 'for every input' (looked for: loops, veiled, ifaces, maps, wideKeys, modest, calm, conditions, laid).
  DERIVED. THE GIVEN ROWS OF THIS SEAT. 11 by the template 'for every input the law returns true; each argument reads behind the call as it read before'; 0 by the template 'total and deterministic' (their statements: YtdjpkgaicmklmaaTotals.lean).
  GIVEN WITH THE SEED: the statements are not yours to turn. If you find one false, say at which input.
  Laid BY PROGRAM, IN A SANDBOX (cutbox-rows.mjs): the forced cells as the released guide's own fill.sh prints them over the translation 74f01a38e487fa49… (all of the seat's roots in one cut). By AI agents, Wed Nov 11 2026. No macro, syntax, notation, axiom, sorry.
-/
import Derived.Test.YtdjpkgaicmklmaaChecked
import GoSem.Claim
import GoSem.ClaimJoined
import GoSem.ClaimMapViews
import Derived.JoinedTies
import Derived.KernelRfl
namespace Go.Proofs.Ytdjpkgaicmklmaa
/- THE CELL 'sum', in the pinned program and in every row, IS THE sha256 OF THE DUMP (.gsa) THAT YtdjpkgaicmklmaaProg.lean LOADS. Nothing in Lean hashes anything: it is a label: what it is worth is what the hold of that sum in a sandbox is worth. -/
noncomputable def Try.pinned : Pinned := { name := "ytdjpkgaicmklmaa", sum := "74f01a38e487fa49b78049d951d08b730255c711218c3be57052e8ddb3ecac55", checked := Try.checked }
namespace Rows
def none {H : Type} : Left H := { results := [], args := [] }

/-- 'parcellaw.Checks': WHATEVER THE INPUT: true; the input reads as it did. -/
def checksSpec : ChangeSpec := { name := "checks", fn := fun _ => fun
  | [d] => { results := [.lit (.bool true)], args := [d] }
  | _ => none }
def checksRow : OpenClaim := { program := "ytdjpkgaicmklmaa", sum := "74f01a38e487fa49b78049d951d08b730255c711218c3be57052e8ddb3ecac55", func := "parcel/parcellaw.Checks", spec := "checks", apart := false }
def ChecksSaid : Prop := checksRow.holds Try.pinned (OpenSpec.ofChange checksSpec)

/-- ITS FALSE NEIGHBOUR: 'it returns false'. Refute it at one input. -/
def checksWrong : ChangeSpec := { name := "checks", fn := fun _ => fun
  | [d] => { results := [.lit (.bool false)], args := [d] }
  | _ => none }
def ChecksWrongFalsely : Prop := checksRow.holds Try.pinned (OpenSpec.ofChange checksWrong)

/-- 'parcellaw.Exports': WHATEVER THE INPUT: true; the input reads as it did. -/
def exportsSpec : ChangeSpec := { name := "exports", fn := fun _ => fun
  | [d] => { results := [.lit (.bool true)], args := [d] }
  | _ => none }
def exportsRow : OpenClaim := { program := "ytdjpkgaicmklmaa", sum := "74f01a38e487fa49b78049d951d08b730255c711218c3be57052e8ddb3ecac55", func := "parcel/parcellaw.Exports", spec := "exports", recurses := true, apart := false }
def ExportsSaid : Prop := exportsRow.holds Try.pinned (OpenSpec.ofChange exportsSpec)

/-- ITS FALSE NEIGHBOUR: 'it returns false'. Refute it at one input. -/
def exportsWrong : ChangeSpec := { name := "exports", fn := fun _ => fun
  | [d] => { results := [.lit (.bool false)], args := [d] }
  | _ => none }
def ExportsWrongFalsely : Prop := exportsRow.holds Try.pinned (OpenSpec.ofChange exportsWrong)

/-- 'parcellaw.Reads': WHATEVER THE INPUT: true; the input reads as it did. -/
def readsSpec : ChangeSpec := { name := "reads", fn := fun _ => fun
  | [d] => { results := [.lit (.bool true)], args := [d] }
  | _ => none }
def readsRow : OpenClaim := { program := "ytdjpkgaicmklmaa", sum := "74f01a38e487fa49b78049d951d08b730255c711218c3be57052e8ddb3ecac55", func := "parcel/parcellaw.Reads", spec := "reads", recurses := true, apart := false }
def ReadsSaid : Prop := readsRow.holds Try.pinned (OpenSpec.ofChange readsSpec)

/-- ITS FALSE NEIGHBOUR: 'it returns false'. Refute it at one input. -/
def readsWrong : ChangeSpec := { name := "reads", fn := fun _ => fun
  | [d] => { results := [.lit (.bool false)], args := [d] }
  | _ => none }
def ReadsWrongFalsely : Prop := readsRow.holds Try.pinned (OpenSpec.ofChange readsWrong)

/-- 'parcellaw.Restores': WHATEVER THE INPUT: true; the input reads as it did. -/
def restoresSpec : ChangeSpec := { name := "restores", fn := fun _ => fun
  | [d] => { results := [.lit (.bool true)], args := [d] }
  | _ => none }
def restoresRow : OpenClaim := { program := "ytdjpkgaicmklmaa", sum := "74f01a38e487fa49b78049d951d08b730255c711218c3be57052e8ddb3ecac55", func := "parcel/parcellaw.Restores", spec := "restores", recurses := true, apart := false }
def RestoresSaid : Prop := restoresRow.holds Try.pinned (OpenSpec.ofChange restoresSpec)

/-- ITS FALSE NEIGHBOUR: 'it returns false'. Refute it at one input. -/
def restoresWrong : ChangeSpec := { name := "restores", fn := fun _ => fun
  | [d] => { results := [.lit (.bool false)], args := [d] }
  | _ => none }
def RestoresWrongFalsely : Prop := restoresRow.holds Try.pinned (OpenSpec.ofChange restoresWrong)

/-- 'parcellaw.Salvages': WHATEVER THE INPUT: true; the input reads as it did. -/
def salvagesSpec : ChangeSpec := { name := "salvages", fn := fun _ => fun
  | [d] => { results := [.lit (.bool true)], args := [d] }
  | _ => none }
def salvagesRow : OpenClaim := { program := "ytdjpkgaicmklmaa", sum := "74f01a38e487fa49b78049d951d08b730255c711218c3be57052e8ddb3ecac55", func := "parcel/parcellaw.Salvages", spec := "salvages", recurses := true, apart := false }
def SalvagesSaid : Prop := salvagesRow.holds Try.pinned (OpenSpec.ofChange salvagesSpec)

/-- ITS FALSE NEIGHBOUR: 'it returns false'. Refute it at one input. -/
def salvagesWrong : ChangeSpec := { name := "salvages", fn := fun _ => fun
  | [d] => { results := [.lit (.bool false)], args := [d] }
  | _ => none }
def SalvagesWrongFalsely : Prop := salvagesRow.holds Try.pinned (OpenSpec.ofChange salvagesWrong)

/-- 'parcellaw.Splits': WHATEVER THE INPUT: true; the input reads as it did. -/
def splitsSpec : ChangeSpec := { name := "splits", fn := fun _ => fun
  | [d1, d2] => { results := [.lit (.bool true)], args := [d1, d2] }
  | _ => none }
def splitsRow : OpenClaim := { program := "ytdjpkgaicmklmaa", sum := "74f01a38e487fa49b78049d951d08b730255c711218c3be57052e8ddb3ecac55", func := "parcel/parcellaw.Splits", spec := "splits", apart := false }
def SplitsSaid : Prop := splitsRow.holds Try.pinned (OpenSpec.ofChange splitsSpec)

/-- ITS FALSE NEIGHBOUR: 'it returns false'. Refute it at one input. -/
def splitsWrong : ChangeSpec := { name := "splits", fn := fun _ => fun
  | [d1, d2] => { results := [.lit (.bool false)], args := [d1, d2] }
  | _ => none }
def SplitsWrongFalsely : Prop := splitsRow.holds Try.pinned (OpenSpec.ofChange splitsWrong)

/-- 'parcellaw.Joins': WHATEVER THE INPUT: true; the input reads as it did. -/
def joinsSpec : ChangeSpec := { name := "joins", fn := fun _ => fun
  | [d] => { results := [.lit (.bool true)], args := [d] }
  | _ => none }
def joinsRow : OpenClaim := { program := "ytdjpkgaicmklmaa", sum := "74f01a38e487fa49b78049d951d08b730255c711218c3be57052e8ddb3ecac55", func := "parcel/parcellaw.Joins", spec := "joins", apart := false }
def JoinsSaid : Prop := joinsRow.holds Try.pinned (OpenSpec.ofChange joinsSpec)

/-- ITS FALSE NEIGHBOUR: 'it returns false'. Refute it at one input. -/
def joinsWrong : ChangeSpec := { name := "joins", fn := fun _ => fun
  | [d] => { results := [.lit (.bool false)], args := [d] }
  | _ => none }
def JoinsWrongFalsely : Prop := joinsRow.holds Try.pinned (OpenSpec.ofChange joinsWrong)

/-- 'parcellaw.Merges': WHATEVER THE INPUT: true; the input reads as it did. -/
def mergesSpec : ChangeSpec := { name := "merges", fn := fun _ => fun
  | [d1, d2] => { results := [.lit (.bool true)], args := [d1, d2] }
  | _ => none }
def mergesRow : OpenClaim := { program := "ytdjpkgaicmklmaa", sum := "74f01a38e487fa49b78049d951d08b730255c711218c3be57052e8ddb3ecac55", func := "parcel/parcellaw.Merges", spec := "merges", apart := false }
def MergesSaid : Prop := mergesRow.holds Try.pinned (OpenSpec.ofChange mergesSpec)

/-- ITS FALSE NEIGHBOUR: 'it returns false'. Refute it at one input. -/
def mergesWrong : ChangeSpec := { name := "merges", fn := fun _ => fun
  | [d1, d2] => { results := [.lit (.bool false)], args := [d1, d2] }
  | _ => none }
def MergesWrongFalsely : Prop := mergesRow.holds Try.pinned (OpenSpec.ofChange mergesWrong)

/-- 'parcellaw.Replays': WHATEVER THE INPUT: true; the input reads as it did. -/
def replaysSpec : ChangeSpec := { name := "replays", fn := fun _ => fun
  | [d] => { results := [.lit (.bool true)], args := [d] }
  | _ => none }
def replaysRow : OpenClaim := { program := "ytdjpkgaicmklmaa", sum := "74f01a38e487fa49b78049d951d08b730255c711218c3be57052e8ddb3ecac55", func := "parcel/parcellaw.Replays", spec := "replays", recurses := true, apart := false }
def ReplaysSaid : Prop := replaysRow.holds Try.pinned (OpenSpec.ofChange replaysSpec)

/-- ITS FALSE NEIGHBOUR: 'it returns false'. Refute it at one input. -/
def replaysWrong : ChangeSpec := { name := "replays", fn := fun _ => fun
  | [d] => { results := [.lit (.bool false)], args := [d] }
  | _ => none }
def ReplaysWrongFalsely : Prop := replaysRow.holds Try.pinned (OpenSpec.ofChange replaysWrong)

/-- 'parcelkeep.Only': WHATEVER THE INPUT: true; the input reads as it did. -/
def onlySpec : ChangeSpec := { name := "only", fn := fun _ => fun
  | [d1, d2, d3, d4, d5] => { results := [.lit (.bool true)], args := [d1, d2, d3, d4, d5] }
  | _ => none }
def onlyRow : OpenClaim := { program := "ytdjpkgaicmklmaa", sum := "74f01a38e487fa49b78049d951d08b730255c711218c3be57052e8ddb3ecac55", func := "parcel/parcelkeep.Only", spec := "only", apart := false }
def OnlySaid : Prop := onlyRow.holds Try.pinned (OpenSpec.ofChange onlySpec)

/-- ITS FALSE NEIGHBOUR: 'it returns false'. Refute it at one input. -/
def onlyWrong : ChangeSpec := { name := "only", fn := fun _ => fun
  | [d1, d2, d3, d4, d5] => { results := [.lit (.bool false)], args := [d1, d2, d3, d4, d5] }
  | _ => none }
def OnlyWrongFalsely : Prop := onlyRow.holds Try.pinned (OpenSpec.ofChange onlyWrong)

/-- 'parcelkeep.Cut': WHATEVER THE INPUT: true; the input reads as it did. -/
def cutSpec : ChangeSpec := { name := "cut", fn := fun _ => fun
  | [d1, d2, d3, d4] => { results := [.lit (.bool true)], args := [d1, d2, d3, d4] }
  | _ => none }
def cutRow : OpenClaim := { program := "ytdjpkgaicmklmaa", sum := "74f01a38e487fa49b78049d951d08b730255c711218c3be57052e8ddb3ecac55", func := "parcel/parcelkeep.Cut", spec := "cut", apart := false }
def CutSaid : Prop := cutRow.holds Try.pinned (OpenSpec.ofChange cutSpec)

/-- ITS FALSE NEIGHBOUR: 'it returns false'. Refute it at one input. -/
def cutWrong : ChangeSpec := { name := "cut", fn := fun _ => fun
  | [d1, d2, d3, d4] => { results := [.lit (.bool false)], args := [d1, d2, d3, d4] }
  | _ => none }
def CutWrongFalsely : Prop := cutRow.holds Try.pinned (OpenSpec.ofChange cutWrong)

/- THE SECOND FORM. 'bulk': how many values and letters a reading holds, each counted each time it is reached (what is shared counts as often as it is met; a slice's spare places count too). A statement '..UptoSaid' is the law's where the arguments, and the package variables that the reading takes, are together of bulk at most 1048576: NARROWER than '..Said'. Prove '..Said' where nothing that the law and all that it calls make is longer than what came in: it says more and counts as full. Else prove '..UptoSaid'. A law counts once. -/
mutual
def uptoBulk {H : Type} : DataW H → Nat
  | .lit (.string bytes) => bytes.length + 1
  | .lit _ => 1
  | .nil => 1
  | .ptr d => uptoBulk d + 1
  | .slice elems spare => uptoBulkAll elems + uptoBulkAll spare + 1
  | .agg parts => uptoBulkAll parts + 1
  | .iface _ d => uptoBulk d + 1
  | .map entries => uptoBulkEntries entries + 1
  | .held _ => 1
def uptoBulkAll {H : Type} : List (DataW H) → Nat
  | [] => 0
  | d :: r => uptoBulk d + uptoBulkAll r
def uptoBulkEntries {H : Type} : List (Lit × DataW H) → Nat
  | [] => 0
  | x :: r => uptoBulkEntry x + uptoBulkEntries r
def uptoBulkEntry {H : Type} : Lit × DataW H → Nat
  | (.string bytes, d) => bytes.length + uptoBulk d + 1
  | (_, d) => uptoBulk d + 1
 end
def uptoSmall : (H : Type) → List (DataW H) → Bool := fun _ ds => decide (uptoBulkAll ds ≤ 1048576)
def OpenSpec.upto (s : _root_.Go.ChangeSpec) : _root_.Go.OpenSpec := { _root_.Go.OpenSpec.ofChange s with cond := some uptoSmall }

/-- 'parcellaw.Checks', WHERE WHAT IT READS IS OF BULK AT MOST 1048576: true; the input reads as it did. -/
def checksUptoRow : OpenClaim := { program := "ytdjpkgaicmklmaa", sum := "74f01a38e487fa49b78049d951d08b730255c711218c3be57052e8ddb3ecac55", func := "parcel/parcellaw.Checks", spec := "checks", apart := false, narrowed := true }
def ChecksUptoSaid : Prop := checksUptoRow.holds Try.pinned (OpenSpec.upto checksSpec)

/-- 'parcellaw.Exports', WHERE WHAT IT READS IS OF BULK AT MOST 1048576: true; the input reads as it did. -/
def exportsUptoRow : OpenClaim := { program := "ytdjpkgaicmklmaa", sum := "74f01a38e487fa49b78049d951d08b730255c711218c3be57052e8ddb3ecac55", func := "parcel/parcellaw.Exports", spec := "exports", recurses := true, apart := false, narrowed := true }
def ExportsUptoSaid : Prop := exportsUptoRow.holds Try.pinned (OpenSpec.upto exportsSpec)

/-- 'parcellaw.Reads', WHERE WHAT IT READS IS OF BULK AT MOST 1048576: true; the input reads as it did. -/
def readsUptoRow : OpenClaim := { program := "ytdjpkgaicmklmaa", sum := "74f01a38e487fa49b78049d951d08b730255c711218c3be57052e8ddb3ecac55", func := "parcel/parcellaw.Reads", spec := "reads", recurses := true, apart := false, narrowed := true }
def ReadsUptoSaid : Prop := readsUptoRow.holds Try.pinned (OpenSpec.upto readsSpec)

/-- 'parcellaw.Restores', WHERE WHAT IT READS IS OF BULK AT MOST 1048576: true; the input reads as it did. -/
def restoresUptoRow : OpenClaim := { program := "ytdjpkgaicmklmaa", sum := "74f01a38e487fa49b78049d951d08b730255c711218c3be57052e8ddb3ecac55", func := "parcel/parcellaw.Restores", spec := "restores", recurses := true, apart := false, narrowed := true }
def RestoresUptoSaid : Prop := restoresUptoRow.holds Try.pinned (OpenSpec.upto restoresSpec)

/-- 'parcellaw.Salvages', WHERE WHAT IT READS IS OF BULK AT MOST 1048576: true; the input reads as it did. -/
def salvagesUptoRow : OpenClaim := { program := "ytdjpkgaicmklmaa", sum := "74f01a38e487fa49b78049d951d08b730255c711218c3be57052e8ddb3ecac55", func := "parcel/parcellaw.Salvages", spec := "salvages", recurses := true, apart := false, narrowed := true }
def SalvagesUptoSaid : Prop := salvagesUptoRow.holds Try.pinned (OpenSpec.upto salvagesSpec)

/-- 'parcellaw.Splits', WHERE WHAT IT READS IS OF BULK AT MOST 1048576: true; the input reads as it did. -/
def splitsUptoRow : OpenClaim := { program := "ytdjpkgaicmklmaa", sum := "74f01a38e487fa49b78049d951d08b730255c711218c3be57052e8ddb3ecac55", func := "parcel/parcellaw.Splits", spec := "splits", apart := false, narrowed := true }
def SplitsUptoSaid : Prop := splitsUptoRow.holds Try.pinned (OpenSpec.upto splitsSpec)

/-- 'parcellaw.Joins', WHERE WHAT IT READS IS OF BULK AT MOST 1048576: true; the input reads as it did. -/
def joinsUptoRow : OpenClaim := { program := "ytdjpkgaicmklmaa", sum := "74f01a38e487fa49b78049d951d08b730255c711218c3be57052e8ddb3ecac55", func := "parcel/parcellaw.Joins", spec := "joins", apart := false, narrowed := true }
def JoinsUptoSaid : Prop := joinsUptoRow.holds Try.pinned (OpenSpec.upto joinsSpec)

/-- 'parcellaw.Merges', WHERE WHAT IT READS IS OF BULK AT MOST 1048576: true; the input reads as it did. -/
def mergesUptoRow : OpenClaim := { program := "ytdjpkgaicmklmaa", sum := "74f01a38e487fa49b78049d951d08b730255c711218c3be57052e8ddb3ecac55", func := "parcel/parcellaw.Merges", spec := "merges", apart := false, narrowed := true }
def MergesUptoSaid : Prop := mergesUptoRow.holds Try.pinned (OpenSpec.upto mergesSpec)

/-- 'parcellaw.Replays', WHERE WHAT IT READS IS OF BULK AT MOST 1048576: true; the input reads as it did. -/
def replaysUptoRow : OpenClaim := { program := "ytdjpkgaicmklmaa", sum := "74f01a38e487fa49b78049d951d08b730255c711218c3be57052e8ddb3ecac55", func := "parcel/parcellaw.Replays", spec := "replays", recurses := true, apart := false, narrowed := true }
def ReplaysUptoSaid : Prop := replaysUptoRow.holds Try.pinned (OpenSpec.upto replaysSpec)

/-- 'parcelkeep.Only', WHERE WHAT IT READS IS OF BULK AT MOST 1048576: true; the input reads as it did. -/
def onlyUptoRow : OpenClaim := { program := "ytdjpkgaicmklmaa", sum := "74f01a38e487fa49b78049d951d08b730255c711218c3be57052e8ddb3ecac55", func := "parcel/parcelkeep.Only", spec := "only", apart := false, narrowed := true }
def OnlyUptoSaid : Prop := onlyUptoRow.holds Try.pinned (OpenSpec.upto onlySpec)

/-- 'parcelkeep.Cut', WHERE WHAT IT READS IS OF BULK AT MOST 1048576: true; the input reads as it did. -/
def cutUptoRow : OpenClaim := { program := "ytdjpkgaicmklmaa", sum := "74f01a38e487fa49b78049d951d08b730255c711218c3be57052e8ddb3ecac55", func := "parcel/parcelkeep.Cut", spec := "cut", apart := false, narrowed := true }
def CutUptoSaid : Prop := cutUptoRow.holds Try.pinned (OpenSpec.upto cutSpec)

end Rows
end Go.Proofs.Ytdjpkgaicmklmaa
