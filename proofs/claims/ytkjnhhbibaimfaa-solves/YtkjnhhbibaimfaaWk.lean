import Derived.Test.YtkjnhhbibaimfaaWa
import Derived.Test.YtkjnhhbibaimfaaRows
import Derived.ProofKit
import Derived.OpenShut
import Derived.ShutString
import Derived.ChangeOld
import Derived.Deep.Slices
namespace Go.Proofs.Ytkjnhhbibaimfaa
open Go.RowKit Fw
set_option linter.unusedVariables false

/-- a step of a script lies at offset o of block b -/
structure OpAt (w : World) (b o : Nat) (k n : Int) (g f s c : ByteArray) : Prop where
  c0 : w.cell? ⟨b, o, none⟩ = some (.int .i64 k)
  c1 : w.cell? ⟨b, o + 1, none⟩ = some (.int .i64 n)
  c2 : w.cell? ⟨b, o + 2, none⟩ = some (.string g)
  c3 : w.cell? ⟨b, o + 3, none⟩ = some (.string f)
  c4 : w.cell? ⟨b, o + 4, none⟩ = some (.string s)
  c5 : w.cell? ⟨b, o + 5, none⟩ = some (.string c)
  wk : (Lit.int .i64 k).wf = true
  wn : (Lit.int .i64 n).wf = true
  lg : g.size ≤ maxLen
  lf : f.size ≤ maxLen
  ls : s.size ≤ maxLen
  lc : c.size ≤ maxLen

/-- a script: nil, or a row of steps below block B -/
def IsOps (w : World) (a : Option Addr) (len cap : Nat) : Prop :=
  len = 0 ∨
  ∃ b off, a = some ⟨b, off, none⟩ ∧ b < w.heap.size ∧ len ≤ cap ∧ cap ≤ maxLen ∧ ∀ i, i < len → ∃ k n g f s c, OpAt w b (off + i * 6) k n g f s c

theorem OpAt.below {w w' : World} {B b o : Nat} {k n : Int} {g f s c : ByteArray} (h : OpAt w b o k n g f s c) (hb : Below B w w') (hlt : b < B) : OpAt w' b o k n g f s c :=
  ⟨(hb.cell (p := ⟨b, o, none⟩) hlt).trans h.c0, (hb.cell (p := ⟨b, o + 1, none⟩) hlt).trans h.c1, (hb.cell (p := ⟨b, o + 2, none⟩) hlt).trans h.c2, (hb.cell (p := ⟨b, o + 3, none⟩) hlt).trans h.c3,
    (hb.cell (p := ⟨b, o + 4, none⟩) hlt).trans h.c4, (hb.cell (p := ⟨b, o + 5, none⟩) hlt).trans h.c5, h.wk, h.wn, h.lg, h.lf, h.ls, h.lc⟩

/-- every step whose kind lies from lo to hi is as the document says -/
def PlaysAll (lo hi : Int) : Prop := ∀ (k n : Int) (g f s c : ByteArray) (w : World), lo ≤ k → k ≤ hi → (Lit.int .i64 n).wf = true → g.size ≤ maxLen → f.size ≤ maxLen → s.size ≤ maxLen → c.size ≤ maxLen →
  Calls Try.prog 28 #[.agg #[.int .i64 k, .int .i64 n, .string g, .string f, .string s, .string c]] w fun e w' => e = .returned (.bool true) ∧ Below w.heap.size w w'

set_option maxRecDepth 100000 in
set_option maxHeartbeats 1000000 in
theorem upTo_any (lo hi : Int) (hp : PlaysAll lo hi) (a : Option Addr) (len cap : Nat) (w : World) (HO : Hid (IsOps w a len cap)) :
    Calls Try.prog 13 #[.slice a len cap, .int .i64 lo, .int .i64 hi] w fun e w' => e = .returned (.int .i64 (-1)) ∧ Below w.heap.size w w' := by
  rcases HO.out with rfl | ⟨b, off, rfl, hb, hl, hm, hops⟩
  · go_enter Try.func13, Try.ntmps13
    go_wp2_with fail
    go_loop [7] (fun q => q = .int .i64 0) (fun q => 0)
    case atStart => rfl
    case round =>
      subst hrel
      go_wp2_with fail
      go_ret
      exact ⟨rfl, Below.refl _ _⟩
  · unfold maxLen at hm
    have HOPS : Hid (∀ i, i < len → ∃ k n g f s c, OpAt w b (off + i * 6) k n g f s c) := hops
    clear hops HO
    go_enter Try.func13, Try.ntmps13
    go_wp2_with fail
    go_loopw [7] (fun q wr => ∃ i : Nat, i ≤ len ∧ q = .int .i64 i ∧ Below w.heap.size w wr) (fun q _ => len - (intOf q).toNat)
    case atStart => exact ⟨0, by omega, rfl, Below.refl _ _⟩
    case round =>
      obtain ⟨i, hi2, rfl, hbel⟩ := hrel
      by_cases hlt : i < len
      · obtain ⟨k, n, g, f, s, c, ho⟩ := HOPS.out i hlt
        have ho1 := ho.below hbel hb
        have HB : Hid (OpAt w b (off + i * 6) k n g f s c) := ho
        obtain ⟨c0, c1, c2, c3, c4, c5, wk, wn, lg, lf, ls, lc⟩ := ho1
        clear ho
        by_cases h1 : lo ≤ k
        · by_cases h2 : k ≤ hi
          · go_wp2_with fail
            refine (hp k n g f s c _ h1 h2 wn lg lf ls lc).mono ?_
            rintro e w1 ⟨rfl, hb1⟩
            have hz := hbel.size
            have HB1 : Hid (Below w.heap.size w w1) := (hbel.alloc hz _).trans (hb1.mono (by simp; omega))
            clear hb1
            go_wp2_with fail
            go_roundw
            case rel => exact ⟨i + 1, by omega, by go_num, HB1.out⟩
            case measure => simp [intOf]; omega
          · have hz := hbel.size
            have HB1 := fun o => hbel.alloc hz o
            have HB2 : Hid (∀ o, Below w.heap.size w (wr.alloc o)) := HB1
            clear HB1
            go_wp2_with fail
            go_roundw
            case rel => exact ⟨i + 1, by omega, by go_num, HB2.out _⟩
            case measure => simp [intOf]; omega
        · have hz := hbel.size
          have HB1 := fun o => hbel.alloc hz o
          have HB2 : Hid (∀ o, Below w.heap.size w (wr.alloc o)) := HB1
          clear HB1
          go_wp2_with fail
          go_roundw
          case rel => exact ⟨i + 1, by omega, by go_num, HB2.out _⟩
          case measure => simp [intOf]; omega
      · go_wp2_with fail
        go_ret
        exact ⟨rfl, hbel⟩

end Go.Proofs.Ytkjnhhbibaimfaa
