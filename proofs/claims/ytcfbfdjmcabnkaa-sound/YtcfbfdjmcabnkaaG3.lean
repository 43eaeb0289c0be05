import Derived.Test.YtcfbfdjmcabnkaaRows
import Derived.ProofKit
import Derived.OpenShut
import Derived.ShutString
import Derived.ChangeOld
import Derived.Deep.Slices
import Derived.Below
import Derived.Test.YtcfbfdjmcabnkaaG2
namespace Go.Proofs.Ytcfbfdjmcabnkaa
open Go.RowKit Fw
set_option linter.unusedVariables false

/-- a step of a script lies at offset o of block b -/
structure OpAt (w : World) (b o : Nat) (k n : Int) (g f s c : ByteArray) : Prop where
  c0 : w.cell? ⟨b, o, none⟩ = some (.int .i64 k)
  c1 : w.cell? ⟨b, o + 1, none⟩ = some (.int .i64 n)
  c2 : w.cell? ⟨b, o + 2, none⟩ = some (.string g)
  c3 : w.cell? ⟨b, o + 3, none⟩ = some (.string f)
  c4 : w.cell? ⟨b, o + 4, none⟩ = some (.string s)
  c5 : w.cell? ⟨b, o + 5, none⟩ = some (.string c)
  wk : (Lit.int .i64 k).wf = true
  wn : (Lit.int .i64 n).wf = true
  lg : g.size ≤ maxLen
  lf : f.size ≤ maxLen
  ls : s.size ≤ maxLen
  lc : c.size ≤ maxLen

/-- a script: nil, or a row of steps below block B -/
def IsOps (w : World) (a : Option Addr) (len cap : Nat) : Prop :=
  len = 0 ∨
  ∃ b off, a = some ⟨b, off, none⟩ ∧ b < w.heap.size ∧ len ≤ cap ∧ cap ≤ maxLen ∧ ∀ i, i < len → ∃ k n g f s c, OpAt w b (off + i * 6) k n g f s c

theorem OpAt.below {w w' : World} {B b o : Nat} {k n : Int} {g f s c : ByteArray} (h : OpAt w b o k n g f s c) (hb : Below B w w') (hlt : b < B) : OpAt w' b o k n g f s c :=
  ⟨(hb.cell (p := ⟨b, o, none⟩) hlt).trans h.c0, (hb.cell (p := ⟨b, o + 1, none⟩) hlt).trans h.c1, (hb.cell (p := ⟨b, o + 2, none⟩) hlt).trans h.c2, (hb.cell (p := ⟨b, o + 3, none⟩) hlt).trans h.c3,
    (hb.cell (p := ⟨b, o + 4, none⟩) hlt).trans h.c4, (hb.cell (p := ⟨b, o + 5, none⟩) hlt).trans h.c5, h.wk, h.wn, h.lg, h.lf, h.ls, h.lc⟩

end Go.Proofs.Ytcfbfdjmcabnkaa

namespace Go.Proofs.Ytcfbfdjmcabnkaa
open Go.ChangeShapes Go.WideShapes Go.ChangeAt Go.RowKit Go.Deep
open Go.ChangeMaps (open_string shut_string)
set_option linter.unusedVariables false

theorem own : ownKnob Try.prog.godebug = none := by kernel_rfl
theorem laidOut : laidOutB Try.prog = true := by kernel_rfl
theorem Try.cells3 : Try.prog.cellsOf 3 = 1 := by kernel_rfl
theorem Try.cells9 : Try.prog.cellsOf 9 = 1 := by kernel_rfl

end Go.Proofs.Ytcfbfdjmcabnkaa

