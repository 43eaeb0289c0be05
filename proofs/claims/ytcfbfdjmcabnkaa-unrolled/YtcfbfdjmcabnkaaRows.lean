/-
  No cell of these rows narrows 'for every input' (looked for: loops, veiled, ifaces, maps, wideKeys, modest, calm, conditions, laid).
  DERIVED. THE GIVEN ROWS OF THIS SEAT. 7 by the template 'for every input the law returns true; each argument reads behind the call as it read before'; 0 by the template 'total and deterministic' (their statements: YtcfbfdjmcabnkaaTotals.lean).
  GIVEN WITH THE SEED: the statements are not yours to turn. If you find one false, say at which input.
  Laid BY PROGRAM, IN A SANDBOX (cutbox-rows.mjs): the forced cells as the released guide's own fill.sh prints them over the translation 1ece6b159a5d8f97… (all of the seat's roots in one cut). By AI agents, Wed Nov 11 2026. No macro, syntax, notation, axiom, sorry.
-/
import Derived.Test.YtcfbfdjmcabnkaaChecked
import GoSem.Claim
import GoSem.ClaimJoined
import GoSem.ClaimMapViews
import Derived.JoinedTies
import Derived.KernelRfl
namespace Go.Proofs.Ytcfbfdjmcabnkaa
/- THE CELL 'sum', in the pinned program and in every row, IS THE sha256 OF THE DUMP (.gsa) THAT YtcfbfdjmcabnkaaProg.lean LOADS. Nothing in Lean hashes anything: it is a label: what it is worth is what the hold of that sum in a sandbox is worth. -/
noncomputable def Try.pinned : Pinned := { name := "ytcfbfdjmcabnkaa", sum := "1ece6b159a5d8f9724cf65c3ed84b31b1b40f40ce30199dafdd3722f166c7b77", checked := Try.checked }
namespace Rows
def none {H : Type} : Left H := { results := [], args := [] }

/-- 'fairwaykeep.Reach': WHATEVER THE INPUT: true; the input reads as it did. -/
def reachSpec : ChangeSpec := { name := "reach", fn := fun _ => fun
  | [d] => { results := [.lit (.bool true)], args := [d] }
  | _ => none }
def reachRow : OpenClaim := { program := "ytcfbfdjmcabnkaa", sum := "1ece6b159a5d8f9724cf65c3ed84b31b1b40f40ce30199dafdd3722f166c7b77", func := "fairway/fairwaykeep.Reach", spec := "reach", recurses := true, apart := false }
def ReachSaid : Prop := reachRow.holds Try.pinned (OpenSpec.ofChange reachSpec)

/-- ITS FALSE NEIGHBOUR: 'it returns false'. Refute it at one input. -/
def reachWrong : ChangeSpec := { name := "reach", fn := fun _ => fun
  | [d] => { results := [.lit (.bool false)], args := [d] }
  | _ => none }
def ReachWrongFalsely : Prop := reachRow.holds Try.pinned (OpenSpec.ofChange reachWrong)

/-- 'fairwaykeep.Rings': WHATEVER THE INPUT: true; the input reads as it did. -/
def ringsSpec : ChangeSpec := { name := "rings", fn := fun _ => fun
  | [d1, d2] => { results := [.lit (.bool true)], args := [d1, d2] }
  | _ => none }
def ringsRow : OpenClaim := { program := "ytcfbfdjmcabnkaa", sum := "1ece6b159a5d8f9724cf65c3ed84b31b1b40f40ce30199dafdd3722f166c7b77", func := "fairway/fairwaykeep.Rings", spec := "rings", recurses := true, apart := false }
def RingsSaid : Prop := ringsRow.holds Try.pinned (OpenSpec.ofChange ringsSpec)

/-- ITS FALSE NEIGHBOUR: 'it returns false'. Refute it at one input. -/
def ringsWrong : ChangeSpec := { name := "rings", fn := fun _ => fun
  | [d1, d2] => { results := [.lit (.bool false)], args := [d1, d2] }
  | _ => none }
def RingsWrongFalsely : Prop := ringsRow.holds Try.pinned (OpenSpec.ofChange ringsWrong)

/-- 'fairwaykeep.Renumbered': WHATEVER THE INPUT: true; the input reads as it did. -/
def renumberedSpec : ChangeSpec := { name := "renumbered", fn := fun _ => fun
  | [d1, d2, d3, d4] => { results := [.lit (.bool true)], args := [d1, d2, d3, d4] }
  | _ => none }
def renumberedRow : OpenClaim := { program := "ytcfbfdjmcabnkaa", sum := "1ece6b159a5d8f9724cf65c3ed84b31b1b40f40ce30199dafdd3722f166c7b77", func := "fairway/fairwaykeep.Renumbered", spec := "renumbered", recurses := true, apart := false }
def RenumberedSaid : Prop := renumberedRow.holds Try.pinned (OpenSpec.ofChange renumberedSpec)

/-- ITS FALSE NEIGHBOUR: 'it returns false'. Refute it at one input. -/
def renumberedWrong : ChangeSpec := { name := "renumbered", fn := fun _ => fun
  | [d1, d2, d3, d4] => { results := [.lit (.bool false)], args := [d1, d2, d3, d4] }
  | _ => none }
def RenumberedWrongFalsely : Prop := renumberedRow.holds Try.pinned (OpenSpec.ofChange renumberedWrong)

/-- 'fairwaykeep.Dual': WHATEVER THE INPUT: true; the input reads as it did. -/
def dualSpec : ChangeSpec := { name := "dual", fn := fun _ => fun
  | [d1, d2, d3] => { results := [.lit (.bool true)], args := [d1, d2, d3] }
  | _ => none }
def dualRow : OpenClaim := { program := "ytcfbfdjmcabnkaa", sum := "1ece6b159a5d8f9724cf65c3ed84b31b1b40f40ce30199dafdd3722f166c7b77", func := "fairway/fairwaykeep.Dual", spec := "dual", recurses := true, apart := false }
def DualSaid : Prop := dualRow.holds Try.pinned (OpenSpec.ofChange dualSpec)

/-- ITS FALSE NEIGHBOUR: 'it returns false'. Refute it at one input. -/
def dualWrong : ChangeSpec := { name := "dual", fn := fun _ => fun
  | [d1, d2, d3] => { results := [.lit (.bool false)], args := [d1, d2, d3] }
  | _ => none }
def DualWrongFalsely : Prop := dualRow.holds Try.pinned (OpenSpec.ofChange dualWrong)

/-- 'fairwaykeep.Unrolled': WHATEVER THE INPUT: true; the input reads as it did. -/
def unrolledSpec : ChangeSpec := { name := "unrolled", fn := fun _ => fun
  | [d1, d2, d3, d4] => { results := [.lit (.bool true)], args := [d1, d2, d3, d4] }
  | _ => none }
def unrolledRow : OpenClaim := { program := "ytcfbfdjmcabnkaa", sum := "1ece6b159a5d8f9724cf65c3ed84b31b1b40f40ce30199dafdd3722f166c7b77", func := "fairway/fairwaykeep.Unrolled", spec := "unrolled", recurses := true, apart := false }
def UnrolledSaid : Prop := unrolledRow.holds Try.pinned (OpenSpec.ofChange unrolledSpec)

/-- ITS FALSE NEIGHBOUR: 'it returns false'. Refute it at one input. -/
def unrolledWrong : ChangeSpec := { name := "unrolled", fn := fun _ => fun
  | [d1, d2, d3, d4] => { results := [.lit (.bool false)], args := [d1, d2, d3, d4] }
  | _ => none }
def UnrolledWrongFalsely : Prop := unrolledRow.holds Try.pinned (OpenSpec.ofChange unrolledWrong)

/-- 'fairwaykeep.Fewer': WHATEVER THE INPUT: true; the input reads as it did. -/
def fewerSpec : ChangeSpec := { name := "fewer", fn := fun _ => fun
  | [d1, d2, d3] => { results := [.lit (.bool true)], args := [d1, d2, d3] }
  | _ => none }
def fewerRow : OpenClaim := { program := "ytcfbfdjmcabnkaa", sum := "1ece6b159a5d8f9724cf65c3ed84b31b1b40f40ce30199dafdd3722f166c7b77", func := "fairway/fairwaykeep.Fewer", spec := "fewer", recurses := true, apart := false }
def FewerSaid : Prop := fewerRow.holds Try.pinned (OpenSpec.ofChange fewerSpec)

/-- ITS FALSE NEIGHBOUR: 'it returns false'. Refute it at one input. -/
def fewerWrong : ChangeSpec := { name := "fewer", fn := fun _ => fun
  | [d1, d2, d3] => { results := [.lit (.bool false)], args := [d1, d2, d3] }
  | _ => none }
def FewerWrongFalsely : Prop := fewerRow.holds Try.pinned (OpenSpec.ofChange fewerWrong)

/-- 'fairwaykeep.Sound': WHATEVER THE INPUT: true; the input reads as it did. -/
def soundSpec : ChangeSpec := { name := "sound", fn := fun _ => fun
  | [d1, d2, d3, d4, d5] => { results := [.lit (.bool true)], args := [d1, d2, d3, d4, d5] }
  | _ => none }
def soundRow : OpenClaim := { program := "ytcfbfdjmcabnkaa", sum := "1ece6b159a5d8f9724cf65c3ed84b31b1b40f40ce30199dafdd3722f166c7b77", func := "fairway/fairwaykeep.Sound", spec := "sound", recurses := true, apart := false }
def SoundSaid : Prop := soundRow.holds Try.pinned (OpenSpec.ofChange soundSpec)

/-- ITS FALSE NEIGHBOUR: 'it returns false'. Refute it at one input. -/
def soundWrong : ChangeSpec := { name := "sound", fn := fun _ => fun
  | [d1, d2, d3, d4, d5] => { results := [.lit (.bool false)], args := [d1, d2, d3, d4, d5] }
  | _ => none }
def SoundWrongFalsely : Prop := soundRow.holds Try.pinned (OpenSpec.ofChange soundWrong)

/- THE SECOND FORM. 'bulk': how many values and letters a reading holds, each counted each time it is reached (what is shared counts as often as it is met; a slice's spare places count too). A statement '..UptoSaid' is the law's where the arguments, and the package variables that the reading takes, are together of bulk at most 1048576: NARROWER than '..Said'. Prove '..Said' where nothing that the law and all that it calls make is longer than what came in: it says more and counts as full. Else prove '..UptoSaid'. A law counts once. -/
mutual
def uptoBulk {H : Type} : DataW H → Nat
  | .lit (.string bytes) => bytes.length + 1
  | .lit _ => 1
  | .nil => 1
  | .ptr d => uptoBulk d + 1
  | .slice elems spare => uptoBulkAll elems + uptoBulkAll spare + 1
  | .agg parts => uptoBulkAll parts + 1
  | .iface _ d => uptoBulk d + 1
  | .map entries => uptoBulkEntries entries + 1
  | .held _ => 1
def uptoBulkAll {H : Type} : List (DataW H) → Nat
  | [] => 0
  | d :: r => uptoBulk d + uptoBulkAll r
def uptoBulkEntries {H : Type} : List (Lit × DataW H) → Nat
  | [] => 0
  | x :: r => uptoBulkEntry x + uptoBulkEntries r
def uptoBulkEntry {H : Type} : Lit × DataW H → Nat
  | (.string bytes, d) => bytes.length + uptoBulk d + 1
  | (_, d) => uptoBulk d + 1
 end
def uptoSmall : (H : Type) → List (DataW H) → Bool := fun _ ds => decide (uptoBulkAll ds ≤ 1048576)
def OpenSpec.upto (s : _root_.Go.ChangeSpec) : _root_.Go.OpenSpec := { _root_.Go.OpenSpec.ofChange s with cond := some uptoSmall }

/-- 'fairwaykeep.Reach', WHERE WHAT IT READS IS OF BULK AT MOST 1048576: true; the input reads as it did. -/
def reachUptoRow : OpenClaim := { program := "ytcfbfdjmcabnkaa", sum := "1ece6b159a5d8f9724cf65c3ed84b31b1b40f40ce30199dafdd3722f166c7b77", func := "fairway/fairwaykeep.Reach", spec := "reach", recurses := true, apart := false, narrowed := true }
def ReachUptoSaid : Prop := reachUptoRow.holds Try.pinned (OpenSpec.upto reachSpec)

/-- 'fairwaykeep.Rings', WHERE WHAT IT READS IS OF BULK AT MOST 1048576: true; the input reads as it did. -/
def ringsUptoRow : OpenClaim := { program := "ytcfbfdjmcabnkaa", sum := "1ece6b159a5d8f9724cf65c3ed84b31b1b40f40ce30199dafdd3722f166c7b77", func := "fairway/fairwaykeep.Rings", spec := "rings", recurses := true, apart := false, narrowed := true }
def RingsUptoSaid : Prop := ringsUptoRow.holds Try.pinned (OpenSpec.upto ringsSpec)

/-- 'fairwaykeep.Renumbered', WHERE WHAT IT READS IS OF BULK AT MOST 1048576: true; the input reads as it did. -/
def renumberedUptoRow : OpenClaim := { program := "ytcfbfdjmcabnkaa", sum := "1ece6b159a5d8f9724cf65c3ed84b31b1b40f40ce30199dafdd3722f166c7b77", func := "fairway/fairwaykeep.Renumbered", spec := "renumbered", recurses := true, apart := false, narrowed := true }
def RenumberedUptoSaid : Prop := renumberedUptoRow.holds Try.pinned (OpenSpec.upto renumberedSpec)

/-- 'fairwaykeep.Dual', WHERE WHAT IT READS IS OF BULK AT MOST 1048576: true; the input reads as it did. -/
def dualUptoRow : OpenClaim := { program := "ytcfbfdjmcabnkaa", sum := "1ece6b159a5d8f9724cf65c3ed84b31b1b40f40ce30199dafdd3722f166c7b77", func := "fairway/fairwaykeep.Dual", spec := "dual", recurses := true, apart := false, narrowed := true }
def DualUptoSaid : Prop := dualUptoRow.holds Try.pinned (OpenSpec.upto dualSpec)

/-- 'fairwaykeep.Unrolled', WHERE WHAT IT READS IS OF BULK AT MOST 1048576: true; the input reads as it did. -/
def unrolledUptoRow : OpenClaim := { program := "ytcfbfdjmcabnkaa", sum := "1ece6b159a5d8f9724cf65c3ed84b31b1b40f40ce30199dafdd3722f166c7b77", func := "fairway/fairwaykeep.Unrolled", spec := "unrolled", recurses := true, apart := false, narrowed := true }
def UnrolledUptoSaid : Prop := unrolledUptoRow.holds Try.pinned (OpenSpec.upto unrolledSpec)

/-- 'fairwaykeep.Fewer', WHERE WHAT IT READS IS OF BULK AT MOST 1048576: true; the input reads as it did. -/
def fewerUptoRow : OpenClaim := { program := "ytcfbfdjmcabnkaa", sum := "1ece6b159a5d8f9724cf65c3ed84b31b1b40f40ce30199dafdd3722f166c7b77", func := "fairway/fairwaykeep.Fewer", spec := "fewer", recurses := true, apart := false, narrowed := true }
def FewerUptoSaid : Prop := fewerUptoRow.holds Try.pinned (OpenSpec.upto fewerSpec)

/-- 'fairwaykeep.Sound', WHERE WHAT IT READS IS OF BULK AT MOST 1048576: true; the input reads as it did. -/
def soundUptoRow : OpenClaim := { program := "ytcfbfdjmcabnkaa", sum := "1ece6b159a5d8f9724cf65c3ed84b31b1b40f40ce30199dafdd3722f166c7b77", func := "fairway/fairwaykeep.Sound", spec := "sound", recurses := true, apart := false, narrowed := true }
def SoundUptoSaid : Prop := soundUptoRow.holds Try.pinned (OpenSpec.upto soundSpec)

end Rows
end Go.Proofs.Ytcfbfdjmcabnkaa
