/-
  No cell of these rows narrows 'for every input' (looked for: loops, veiled, ifaces, maps, wideKeys, modest, calm, conditions, laid).
  DERIVED. THE GIVEN ROWS OF THIS SEAT. 6 by the template 'for every input the law returns true; each argument reads behind the call as it read before'; 0 by the template 'total and deterministic' (their statements: YtdjpkgaicmklmabTotals.lean).
  GIVEN WITH THE SEED: the statements are not yours to turn. If you find one false, say at which input.
  Laid BY PROGRAM, IN A SANDBOX (cutbox-rows.mjs): the forced cells as the released guide's own fill.sh prints them over the translation 43f06429b25fae87… (all of the seat's roots in one cut). By AI agents, Wed Nov 11 2026. No macro, syntax, notation, axiom, sorry.
-/
import Derived.Test.YtdjpkgaicmklmabChecked
import GoSem.Claim
import GoSem.ClaimJoined
import GoSem.ClaimMapViews
import Derived.JoinedTies
import Derived.KernelRfl
namespace Go.Proofs.Ytdjpkgaicmklmab
/- THE CELL 'sum', in the pinned program and in every row, IS THE sha256 OF THE DUMP (.gsa) THAT YtdjpkgaicmklmabProg.lean LOADS. Nothing in Lean hashes anything: it is a label: what it is worth is what the hold of that sum in a sandbox is worth. -/
noncomputable def Try.pinned : Pinned := { name := "ytdjpkgaicmklmab", sum := "43f06429b25fae8744b098e5ee1115015cd9067fc68bd32c7237771ca8101bf6", checked := Try.checked }
namespace Rows
def none {H : Type} : Left H := { results := [], args := [] }

/-- 'parcelkeep.Carried': WHATEVER THE INPUT: true; the input reads as it did. -/
def carriedSpec : ChangeSpec := { name := "carried", fn := fun _ => fun
  | [d1, d2, d3, d4, d5] => { results := [.lit (.bool true)], args := [d1, d2, d3, d4, d5] }
  | _ => none }
def carriedRow : OpenClaim := { program := "ytdjpkgaicmklmab", sum := "43f06429b25fae8744b098e5ee1115015cd9067fc68bd32c7237771ca8101bf6", func := "parcel/parcelkeep.Carried", spec := "carried", apart := false }
def CarriedSaid : Prop := carriedRow.holds Try.pinned (OpenSpec.ofChange carriedSpec)

/-- ITS FALSE NEIGHBOUR: 'it returns false'. Refute it at one input. -/
def carriedWrong : ChangeSpec := { name := "carried", fn := fun _ => fun
  | [d1, d2, d3, d4, d5] => { results := [.lit (.bool false)], args := [d1, d2, d3, d4, d5] }
  | _ => none }
def CarriedWrongFalsely : Prop := carriedRow.holds Try.pinned (OpenSpec.ofChange carriedWrong)

/-- 'parcelkeep.Torn': WHATEVER THE INPUT: true; the input reads as it did. -/
def tornSpec : ChangeSpec := { name := "torn", fn := fun _ => fun
  | [d1, d2, d3, d4, d5, d6, d7] => { results := [.lit (.bool true)], args := [d1, d2, d3, d4, d5, d6, d7] }
  | _ => none }
def tornRow : OpenClaim := { program := "ytdjpkgaicmklmab", sum := "43f06429b25fae8744b098e5ee1115015cd9067fc68bd32c7237771ca8101bf6", func := "parcel/parcelkeep.Torn", spec := "torn", apart := false }
def TornSaid : Prop := tornRow.holds Try.pinned (OpenSpec.ofChange tornSpec)

/-- ITS FALSE NEIGHBOUR: 'it returns false'. Refute it at one input. -/
def tornWrong : ChangeSpec := { name := "torn", fn := fun _ => fun
  | [d1, d2, d3, d4, d5, d6, d7] => { results := [.lit (.bool false)], args := [d1, d2, d3, d4, d5, d6, d7] }
  | _ => none }
def TornWrongFalsely : Prop := tornRow.holds Try.pinned (OpenSpec.ofChange tornWrong)

/-- 'parcelkeep.Missing': WHATEVER THE INPUT: true; the input reads as it did. -/
def missingSpec : ChangeSpec := { name := "missing", fn := fun _ => fun
  | [d1, d2, d3, d4] => { results := [.lit (.bool true)], args := [d1, d2, d3, d4] }
  | _ => none }
def missingRow : OpenClaim := { program := "ytdjpkgaicmklmab", sum := "43f06429b25fae8744b098e5ee1115015cd9067fc68bd32c7237771ca8101bf6", func := "parcel/parcelkeep.Missing", spec := "missing", apart := false }
def MissingSaid : Prop := missingRow.holds Try.pinned (OpenSpec.ofChange missingSpec)

/-- ITS FALSE NEIGHBOUR: 'it returns false'. Refute it at one input. -/
def missingWrong : ChangeSpec := { name := "missing", fn := fun _ => fun
  | [d1, d2, d3, d4] => { results := [.lit (.bool false)], args := [d1, d2, d3, d4] }
  | _ => none }
def MissingWrongFalsely : Prop := missingRow.holds Try.pinned (OpenSpec.ofChange missingWrong)

/-- 'parcelkeep.Joined': WHATEVER THE INPUT: true; the input reads as it did. -/
def joinedSpec : ChangeSpec := { name := "joined", fn := fun _ => fun
  | [d1, d2, d3, d4, d5] => { results := [.lit (.bool true)], args := [d1, d2, d3, d4, d5] }
  | _ => none }
def joinedRow : OpenClaim := { program := "ytdjpkgaicmklmab", sum := "43f06429b25fae8744b098e5ee1115015cd9067fc68bd32c7237771ca8101bf6", func := "parcel/parcelkeep.Joined", spec := "joined", apart := false }
def JoinedSaid : Prop := joinedRow.holds Try.pinned (OpenSpec.ofChange joinedSpec)

/-- ITS FALSE NEIGHBOUR: 'it returns false'. Refute it at one input. -/
def joinedWrong : ChangeSpec := { name := "joined", fn := fun _ => fun
  | [d1, d2, d3, d4, d5] => { results := [.lit (.bool false)], args := [d1, d2, d3, d4, d5] }
  | _ => none }
def JoinedWrongFalsely : Prop := joinedRow.holds Try.pinned (OpenSpec.ofChange joinedWrong)

/-- 'parcelkeep.Chained': WHATEVER THE INPUT: true; the input reads as it did. -/
def chainedSpec : ChangeSpec := { name := "chained", fn := fun _ => fun
  | [d1, d2, d3, d4] => { results := [.lit (.bool true)], args := [d1, d2, d3, d4] }
  | _ => none }
def chainedRow : OpenClaim := { program := "ytdjpkgaicmklmab", sum := "43f06429b25fae8744b098e5ee1115015cd9067fc68bd32c7237771ca8101bf6", func := "parcel/parcelkeep.Chained", spec := "chained", apart := false }
def ChainedSaid : Prop := chainedRow.holds Try.pinned (OpenSpec.ofChange chainedSpec)

/-- ITS FALSE NEIGHBOUR: 'it returns false'. Refute it at one input. -/
def chainedWrong : ChangeSpec := { name := "chained", fn := fun _ => fun
  | [d1, d2, d3, d4] => { results := [.lit (.bool false)], args := [d1, d2, d3, d4] }
  | _ => none }
def ChainedWrongFalsely : Prop := chainedRow.holds Try.pinned (OpenSpec.ofChange chainedWrong)

/-- 'parcelkeep.Strange': WHATEVER THE INPUT: true; the input reads as it did. -/
def strangeSpec : ChangeSpec := { name := "strange", fn := fun _ => fun
  | [d1, d2, d3, d4, d5] => { results := [.lit (.bool true)], args := [d1, d2, d3, d4, d5] }
  | _ => none }
def strangeRow : OpenClaim := { program := "ytdjpkgaicmklmab", sum := "43f06429b25fae8744b098e5ee1115015cd9067fc68bd32c7237771ca8101bf6", func := "parcel/parcelkeep.Strange", spec := "strange", apart := false }
def StrangeSaid : Prop := strangeRow.holds Try.pinned (OpenSpec.ofChange strangeSpec)

/-- ITS FALSE NEIGHBOUR: 'it returns false'. Refute it at one input. -/
def strangeWrong : ChangeSpec := { name := "strange", fn := fun _ => fun
  | [d1, d2, d3, d4, d5] => { results := [.lit (.bool false)], args := [d1, d2, d3, d4, d5] }
  | _ => none }
def StrangeWrongFalsely : Prop := strangeRow.holds Try.pinned (OpenSpec.ofChange strangeWrong)

/- THE SECOND FORM. 'bulk': how many values and letters a reading holds, each counted each time it is reached (what is shared counts as often as it is met; a slice's spare places count too). A statement '..UptoSaid' is the law's where the arguments, and the package variables that the reading takes, are together of bulk at most 1048576: NARROWER than '..Said'. Prove '..Said' where nothing that the law and all that it calls make is longer than what came in: it says more and counts as full. Else prove '..UptoSaid'. A law counts once. -/
mutual
def uptoBulk {H : Type} : DataW H → Nat
  | .lit (.string bytes) => bytes.length + 1
  | .lit _ => 1
  | .nil => 1
  | .ptr d => uptoBulk d + 1
  | .slice elems spare => uptoBulkAll elems + uptoBulkAll spare + 1
  | .agg parts => uptoBulkAll parts + 1
  | .iface _ d => uptoBulk d + 1
  | .map entries => uptoBulkEntries entries + 1
  | .held _ => 1
def uptoBulkAll {H : Type} : List (DataW H) → Nat
  | [] => 0
  | d :: r => uptoBulk d + uptoBulkAll r
def uptoBulkEntries {H : Type} : List (Lit × DataW H) → Nat
  | [] => 0
  | x :: r => uptoBulkEntry x + uptoBulkEntries r
def uptoBulkEntry {H : Type} : Lit × DataW H → Nat
  | (.string bytes, d) => bytes.length + uptoBulk d + 1
  | (_, d) => uptoBulk d + 1
 end
def uptoSmall : (H : Type) → List (DataW H) → Bool := fun _ ds => decide (uptoBulkAll ds ≤ 1048576)
def OpenSpec.upto (s : _root_.Go.ChangeSpec) : _root_.Go.OpenSpec := { _root_.Go.OpenSpec.ofChange s with cond := some uptoSmall }

/-- 'parcelkeep.Carried', WHERE WHAT IT READS IS OF BULK AT MOST 1048576: true; the input reads as it did. -/
def carriedUptoRow : OpenClaim := { program := "ytdjpkgaicmklmab", sum := "43f06429b25fae8744b098e5ee1115015cd9067fc68bd32c7237771ca8101bf6", func := "parcel/parcelkeep.Carried", spec := "carried", apart := false, narrowed := true }
def CarriedUptoSaid : Prop := carriedUptoRow.holds Try.pinned (OpenSpec.upto carriedSpec)

/-- 'parcelkeep.Torn', WHERE WHAT IT READS IS OF BULK AT MOST 1048576: true; the input reads as it did. -/
def tornUptoRow : OpenClaim := { program := "ytdjpkgaicmklmab", sum := "43f06429b25fae8744b098e5ee1115015cd9067fc68bd32c7237771ca8101bf6", func := "parcel/parcelkeep.Torn", spec := "torn", apart := false, narrowed := true }
def TornUptoSaid : Prop := tornUptoRow.holds Try.pinned (OpenSpec.upto tornSpec)

/-- 'parcelkeep.Missing', WHERE WHAT IT READS IS OF BULK AT MOST 1048576: true; the input reads as it did. -/
def missingUptoRow : OpenClaim := { program := "ytdjpkgaicmklmab", sum := "43f06429b25fae8744b098e5ee1115015cd9067fc68bd32c7237771ca8101bf6", func := "parcel/parcelkeep.Missing", spec := "missing", apart := false, narrowed := true }
def MissingUptoSaid : Prop := missingUptoRow.holds Try.pinned (OpenSpec.upto missingSpec)

/-- 'parcelkeep.Joined', WHERE WHAT IT READS IS OF BULK AT MOST 1048576: true; the input reads as it did. -/
def joinedUptoRow : OpenClaim := { program := "ytdjpkgaicmklmab", sum := "43f06429b25fae8744b098e5ee1115015cd9067fc68bd32c7237771ca8101bf6", func := "parcel/parcelkeep.Joined", spec := "joined", apart := false, narrowed := true }
def JoinedUptoSaid : Prop := joinedUptoRow.holds Try.pinned (OpenSpec.upto joinedSpec)

/-- 'parcelkeep.Chained', WHERE WHAT IT READS IS OF BULK AT MOST 1048576: true; the input reads as it did. -/
def chainedUptoRow : OpenClaim := { program := "ytdjpkgaicmklmab", sum := "43f06429b25fae8744b098e5ee1115015cd9067fc68bd32c7237771ca8101bf6", func := "parcel/parcelkeep.Chained", spec := "chained", apart := false, narrowed := true }
def ChainedUptoSaid : Prop := chainedUptoRow.holds Try.pinned (OpenSpec.upto chainedSpec)

/-- 'parcelkeep.Strange', WHERE WHAT IT READS IS OF BULK AT MOST 1048576: true; the input reads as it did. -/
def strangeUptoRow : OpenClaim := { program := "ytdjpkgaicmklmab", sum := "43f06429b25fae8744b098e5ee1115015cd9067fc68bd32c7237771ca8101bf6", func := "parcel/parcelkeep.Strange", spec := "strange", apart := false, narrowed := true }
def StrangeUptoSaid : Prop := strangeUptoRow.holds Try.pinned (OpenSpec.upto strangeSpec)

end Rows
end Go.Proofs.Ytdjpkgaicmklmab
