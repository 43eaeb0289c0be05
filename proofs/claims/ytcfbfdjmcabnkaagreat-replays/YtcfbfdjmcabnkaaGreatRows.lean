/-
  No cell of these rows narrows 'for every input' (looked for: loops, veiled, ifaces, maps, wideKeys, modest, calm, conditions, laid).
  DERIVED. THE GIVEN ROWS OF THIS SEAT. 5 by the template 'for every input the law returns true; each argument reads behind the call as it read before'; 0 by the template 'total and deterministic' (their statements: YtcfbfdjmcabnkaaGreatTotals.lean).
  GIVEN WITH THE SEED: the statements are not yours to turn. If you find one false, say at which input.
  Laid BY PROGRAM, IN A SANDBOX (cutbox-rows.mjs): the forced cells as the released guide's own fill.sh prints them over the translation 21889b2a9ba9d512… (all of the seat's roots in one cut). By AI agents, Wed Nov 11 2026. No macro, syntax, notation, axiom, sorry.
-/
import Derived.Test.YtcfbfdjmcabnkaaGreatChecked
import GoSem.Claim
import GoSem.ClaimJoined
import GoSem.ClaimMapViews
import Derived.JoinedTies
import Derived.KernelRfl
namespace Go.Proofs.YtcfbfdjmcabnkaaGreat
/- THE CELL 'sum', in the pinned program and in every row, IS THE sha256 OF THE DUMP (.gsa) THAT YtcfbfdjmcabnkaaGreatProg.lean LOADS. Nothing in Lean hashes anything: it is a label: what it is worth is what the hold of that sum in a sandbox is worth. -/
noncomputable def Tryz.pinned : Pinned := { name := "ytcfbfdjmcabnkaagreat", sum := "21889b2a9ba9d51216f0d625508a0c67e42590da930f362b88dbc1edb719b54f", checked := Tryz.checked }
namespace Rows
def none {H : Type} : Left H := { results := [], args := [] }

/-- 'fairwaylaw.Checks': WHATEVER THE INPUT: true; the input reads as it did. -/
def checksSpec : ChangeSpec := { name := "checks", fn := fun _ => fun
  | [d] => { results := [.lit (.bool true)], args := [d] }
  | _ => none }
def checksRow : OpenClaim := { program := "ytcfbfdjmcabnkaagreat", sum := "21889b2a9ba9d51216f0d625508a0c67e42590da930f362b88dbc1edb719b54f", func := "fairway/fairwaylaw.Checks", spec := "checks", recurses := true, apart := false }
def ChecksSaid : Prop := checksRow.holds Tryz.pinned (OpenSpec.ofChange checksSpec)

/-- ITS FALSE NEIGHBOUR: 'it returns false'. Refute it at one input. -/
def checksWrong : ChangeSpec := { name := "checks", fn := fun _ => fun
  | [d] => { results := [.lit (.bool false)], args := [d] }
  | _ => none }
def ChecksWrongFalsely : Prop := checksRow.holds Tryz.pinned (OpenSpec.ofChange checksWrong)

/-- 'fairwaylaw.Forms': WHATEVER THE INPUT: true; the input reads as it did. -/
def formsSpec : ChangeSpec := { name := "forms", fn := fun _ => fun
  | [d] => { results := [.lit (.bool true)], args := [d] }
  | _ => none }
def formsRow : OpenClaim := { program := "ytcfbfdjmcabnkaagreat", sum := "21889b2a9ba9d51216f0d625508a0c67e42590da930f362b88dbc1edb719b54f", func := "fairway/fairwaylaw.Forms", spec := "forms", recurses := true, apart := false }
def FormsSaid : Prop := formsRow.holds Tryz.pinned (OpenSpec.ofChange formsSpec)

/-- ITS FALSE NEIGHBOUR: 'it returns false'. Refute it at one input. -/
def formsWrong : ChangeSpec := { name := "forms", fn := fun _ => fun
  | [d] => { results := [.lit (.bool false)], args := [d] }
  | _ => none }
def FormsWrongFalsely : Prop := formsRow.holds Tryz.pinned (OpenSpec.ofChange formsWrong)

/-- 'fairwaylaw.Pushes': WHATEVER THE INPUT: true; the input reads as it did. -/
def pushesSpec : ChangeSpec := { name := "pushes", fn := fun _ => fun
  | [d] => { results := [.lit (.bool true)], args := [d] }
  | _ => none }
def pushesRow : OpenClaim := { program := "ytcfbfdjmcabnkaagreat", sum := "21889b2a9ba9d51216f0d625508a0c67e42590da930f362b88dbc1edb719b54f", func := "fairway/fairwaylaw.Pushes", spec := "pushes", recurses := true, apart := false }
def PushesSaid : Prop := pushesRow.holds Tryz.pinned (OpenSpec.ofChange pushesSpec)

/-- ITS FALSE NEIGHBOUR: 'it returns false'. Refute it at one input. -/
def pushesWrong : ChangeSpec := { name := "pushes", fn := fun _ => fun
  | [d] => { results := [.lit (.bool false)], args := [d] }
  | _ => none }
def PushesWrongFalsely : Prop := pushesRow.holds Tryz.pinned (OpenSpec.ofChange pushesWrong)

/-- 'fairwaylaw.Solves': WHATEVER THE INPUT: true; the input reads as it did. -/
def solvesSpec : ChangeSpec := { name := "solves", fn := fun _ => fun
  | [d] => { results := [.lit (.bool true)], args := [d] }
  | _ => none }
def solvesRow : OpenClaim := { program := "ytcfbfdjmcabnkaagreat", sum := "21889b2a9ba9d51216f0d625508a0c67e42590da930f362b88dbc1edb719b54f", func := "fairway/fairwaylaw.Solves", spec := "solves", recurses := true, apart := false }
def SolvesSaid : Prop := solvesRow.holds Tryz.pinned (OpenSpec.ofChange solvesSpec)

/-- ITS FALSE NEIGHBOUR: 'it returns false'. Refute it at one input. -/
def solvesWrong : ChangeSpec := { name := "solves", fn := fun _ => fun
  | [d] => { results := [.lit (.bool false)], args := [d] }
  | _ => none }
def SolvesWrongFalsely : Prop := solvesRow.holds Tryz.pinned (OpenSpec.ofChange solvesWrong)

/-- 'fairwaylaw.Replays': WHATEVER THE INPUT: true; the input reads as it did. -/
def replaysSpec : ChangeSpec := { name := "replays", fn := fun _ => fun
  | [d] => { results := [.lit (.bool true)], args := [d] }
  | _ => none }
def replaysRow : OpenClaim := { program := "ytcfbfdjmcabnkaagreat", sum := "21889b2a9ba9d51216f0d625508a0c67e42590da930f362b88dbc1edb719b54f", func := "fairway/fairwaylaw.Replays", spec := "replays", recurses := true, apart := false }
def ReplaysSaid : Prop := replaysRow.holds Tryz.pinned (OpenSpec.ofChange replaysSpec)

/-- ITS FALSE NEIGHBOUR: 'it returns false'. Refute it at one input. -/
def replaysWrong : ChangeSpec := { name := "replays", fn := fun _ => fun
  | [d] => { results := [.lit (.bool false)], args := [d] }
  | _ => none }
def ReplaysWrongFalsely : Prop := replaysRow.holds Tryz.pinned (OpenSpec.ofChange replaysWrong)

/- THE SECOND FORM. 'bulk': how many values and letters a reading holds, each counted each time it is reached (what is shared counts as often as it is met; a slice's spare places count too). A statement '..UptoSaid' is the law's where the arguments, and the package variables that the reading takes, are together of bulk at most 1048576: NARROWER than '..Said'. Prove '..Said' where nothing that the law and all that it calls make is longer than what came in: it says more and counts as full. Else prove '..UptoSaid'. A law counts once. -/
mutual
def uptoBulk {H : Type} : DataW H → Nat
  | .lit (.string bytes) => bytes.length + 1
  | .lit _ => 1
  | .nil => 1
  | .ptr d => uptoBulk d + 1
  | .slice elems spare => uptoBulkAll elems + uptoBulkAll spare + 1
  | .agg parts => uptoBulkAll parts + 1
  | .iface _ d => uptoBulk d + 1
  | .map entries => uptoBulkEntries entries + 1
  | .held _ => 1
def uptoBulkAll {H : Type} : List (DataW H) → Nat
  | [] => 0
  | d :: r => uptoBulk d + uptoBulkAll r
def uptoBulkEntries {H : Type} : List (Lit × DataW H) → Nat
  | [] => 0
  | x :: r => uptoBulkEntry x + uptoBulkEntries r
def uptoBulkEntry {H : Type} : Lit × DataW H → Nat
  | (.string bytes, d) => bytes.length + uptoBulk d + 1
  | (_, d) => uptoBulk d + 1
 end
def uptoSmall : (H : Type) → List (DataW H) → Bool := fun _ ds => decide (uptoBulkAll ds ≤ 1048576)
def OpenSpec.upto (s : _root_.Go.ChangeSpec) : _root_.Go.OpenSpec := { _root_.Go.OpenSpec.ofChange s with cond := some uptoSmall }

/-- 'fairwaylaw.Checks', WHERE WHAT IT READS IS OF BULK AT MOST 1048576: true; the input reads as it did. -/
def checksUptoRow : OpenClaim := { program := "ytcfbfdjmcabnkaagreat", sum := "21889b2a9ba9d51216f0d625508a0c67e42590da930f362b88dbc1edb719b54f", func := "fairway/fairwaylaw.Checks", spec := "checks", recurses := true, apart := false, narrowed := true }
def ChecksUptoSaid : Prop := checksUptoRow.holds Tryz.pinned (OpenSpec.upto checksSpec)

/-- 'fairwaylaw.Forms', WHERE WHAT IT READS IS OF BULK AT MOST 1048576: true; the input reads as it did. -/
def formsUptoRow : OpenClaim := { program := "ytcfbfdjmcabnkaagreat", sum := "21889b2a9ba9d51216f0d625508a0c67e42590da930f362b88dbc1edb719b54f", func := "fairway/fairwaylaw.Forms", spec := "forms", recurses := true, apart := false, narrowed := true }
def FormsUptoSaid : Prop := formsUptoRow.holds Tryz.pinned (OpenSpec.upto formsSpec)

/-- 'fairwaylaw.Pushes', WHERE WHAT IT READS IS OF BULK AT MOST 1048576: true; the input reads as it did. -/
def pushesUptoRow : OpenClaim := { program := "ytcfbfdjmcabnkaagreat", sum := "21889b2a9ba9d51216f0d625508a0c67e42590da930f362b88dbc1edb719b54f", func := "fairway/fairwaylaw.Pushes", spec := "pushes", recurses := true, apart := false, narrowed := true }
def PushesUptoSaid : Prop := pushesUptoRow.holds Tryz.pinned (OpenSpec.upto pushesSpec)

/-- 'fairwaylaw.Solves', WHERE WHAT IT READS IS OF BULK AT MOST 1048576: true; the input reads as it did. -/
def solvesUptoRow : OpenClaim := { program := "ytcfbfdjmcabnkaagreat", sum := "21889b2a9ba9d51216f0d625508a0c67e42590da930f362b88dbc1edb719b54f", func := "fairway/fairwaylaw.Solves", spec := "solves", recurses := true, apart := false, narrowed := true }
def SolvesUptoSaid : Prop := solvesUptoRow.holds Tryz.pinned (OpenSpec.upto solvesSpec)

/-- 'fairwaylaw.Replays', WHERE WHAT IT READS IS OF BULK AT MOST 1048576: true; the input reads as it did. -/
def replaysUptoRow : OpenClaim := { program := "ytcfbfdjmcabnkaagreat", sum := "21889b2a9ba9d51216f0d625508a0c67e42590da930f362b88dbc1edb719b54f", func := "fairway/fairwaylaw.Replays", spec := "replays", recurses := true, apart := false, narrowed := true }
def ReplaysUptoSaid : Prop := replaysUptoRow.holds Tryz.pinned (OpenSpec.upto replaysSpec)

end Rows
end Go.Proofs.YtcfbfdjmcabnkaaGreat
