import Derived.Test.YtcfbfdjmcabnkabGreatRows
import Derived.ProofKit
import Derived.OpenShut
import Derived.ShutString
import Derived.ChangeOld
import Derived.Deep.Slices
import Derived.Below
import Derived.Test.YtcfbfdjmcabnkabGreatG2
set_option maxRecDepth 100000
set_option maxHeartbeats 1000000
namespace Go.Proofs.YtcfbfdjmcabnkabGreat
open Go.RowKit Fw
set_option linter.unusedVariables false
structure OpAt (w : World) (b o : Nat) (k n : Int) (g f s c : ByteArray) : Prop where
 c0 : w.cell? ⟨b, o, none⟩ = some (.int .i64 k)
 c1 : w.cell? ⟨b, o + 1, none⟩ = some (.int .i64 n)
 c2 : w.cell? ⟨b, o + 2, none⟩ = some (.string g)
 c3 : w.cell? ⟨b, o + 3, none⟩ = some (.string f)
 c4 : w.cell? ⟨b, o + 4, none⟩ = some (.string s)
 c5 : w.cell? ⟨b, o + 5, none⟩ = some (.string c)
 wk : (Lit.int .i64 k).wf = true
 wn : (Lit.int .i64 n).wf = true
 lg : g.size <= maxLen
 lf : f.size <= maxLen
 ls : s.size <= maxLen
 lc : c.size <= maxLen
def IsOps (w : World) (a : Option Addr) (len cap : Nat) : Prop :=
 len = 0 ∨
 ∃ b off, a = some ⟨b, off, none⟩ ∧ b < w.heap.size ∧ len <= cap ∧ cap <= maxLen ∧ ∀ i, i < len -> ∃ k n g f s c, OpAt w b (off + i * 6) k n g f s c
theorem OpAt.below {w w' : World} {B b o : Nat} {k n : Int} {g f s c : ByteArray} (h : OpAt w b o k n g f s c) (hb : Below B w w') (hlt : b < B) : OpAt w' b o k n g f s c :=
 ⟨(hb.cell (p := ⟨b, o, none⟩) hlt).trans h.c0, (hb.cell (p := ⟨b, o + 1, none⟩) hlt).trans h.c1, (hb.cell (p := ⟨b, o + 2, none⟩) hlt).trans h.c2, (hb.cell (p := ⟨b, o + 3, none⟩) hlt).trans h.c3,
   (hb.cell (p := ⟨b, o + 4, none⟩) hlt).trans h.c4, (hb.cell (p := ⟨b, o + 5, none⟩) hlt).trans h.c5, h.wk, h.wn, h.lg, h.lf, h.ls, h.lc⟩
def PlaysAll (lo hi : Int) : Prop := ∀ (k n : Int) (g f s c : ByteArray) (w : World), lo <= k -> k <= hi -> (Lit.int .i64 n).wf = true -> g.size <= maxLen -> f.size <= maxLen -> s.size <= maxLen -> c.size <= maxLen ->
 Calls Tryz.prog 6 #[.agg #[.int .i64 k, .int .i64 n, .string g, .string f, .string s, .string c]] w fun e w' => e = .returned (.bool true) ∧ Below w.heap.size w w'
theorem upTo_any (lo hi : Int) (hp : PlaysAll lo hi) (a : Option Addr) (len cap : Nat) (w : World) (HO : Hid (IsOps w a len cap)) :
   Calls Tryz.prog 5 #[.slice a len cap, .int .i64 lo, .int .i64 hi] w fun e w' => e = .returned (.int .i64 (-1)) ∧ Below w.heap.size w w' := by
 rcases HO.out with rfl | ⟨b, off, rfl, hb, hl, hm, hops⟩
 · go_enter Tryz.func5, Tryz.ntmps5
   go_wp2_with fail
   go_loop [7] (fun q => q = .int .i64 0) (fun q => 0)
   case atStart => rfl
   case round =>
     subst hrel
     go_wp2_with fail
     go_ret
     exact ⟨rfl, Below.refl _ _⟩
 · unfold maxLen at hm
   have HOPS : Hid (∀ i, i < len -> ∃ k n g f s c, OpAt w b (off + i * 6) k n g f s c) := hops
   clear hops HO
   go_enter Tryz.func5, Tryz.ntmps5
   go_wp2_with fail
   go_loopw [7] (fun q wr => ∃ i : Nat, i <= len ∧ q = .int .i64 i ∧ Below w.heap.size w wr) (fun q _ => len - (intOf q).toNat)
   case atStart => exact ⟨0, by omega, rfl, Below.refl _ _⟩
   case round =>
     obtain ⟨i, hi2, rfl, hbel⟩ := hrel
     by_cases hlt : i < len
     · obtain ⟨k, n, g, f, s, c, ho⟩ := HOPS.out i hlt
       have ho1 := ho.below hbel hb
       have HB : Hid (OpAt w b (off + i * 6) k n g f s c) := ho
       obtain ⟨c0, c1, c2, c3, c4, c5, wk, wn, lg, lf, ls, lc⟩ := ho1
       clear ho
       by_cases h1 : lo <= k
       · by_cases h2 : k <= hi
         · go_wp2_with fail
           refine (hp k n g f s c _ h1 h2 wn lg lf ls lc).mono ?_
           rintro e w1 ⟨rfl, hb1⟩
           have hz := hbel.size
           have HB1 : Hid (Below w.heap.size w w1) := (hbel.alloc hz _).trans (hb1.mono (by simp; omega))
           clear hb1
           go_wp2_with fail
           go_roundw
           case rel => exact ⟨i + 1, by omega, by go_num, HB1.out⟩
           case measure => simp [intOf]; omega
         · have hz := hbel.size
           have HB1 := fun o => hbel.alloc hz o
           have HB2 : Hid (∀ o, Below w.heap.size w (wr.alloc o)) := HB1
           clear HB1
           go_wp2_with fail
           go_roundw
           case rel => exact ⟨i + 1, by omega, by go_num, HB2.out _⟩
           case measure => simp [intOf]; omega
       · have hz := hbel.size
         have HB1 := fun o => hbel.alloc hz o
         have HB2 : Hid (∀ o, Below w.heap.size w (wr.alloc o)) := HB1
         clear HB1
         go_wp2_with fail
         go_roundw
         case rel => exact ⟨i + 1, by omega, by go_num, HB2.out _⟩
         case measure => simp [intOf]; omega
     · go_wp2_with fail
       go_ret
       exact ⟨rfl, hbel⟩
end Go.Proofs.YtcfbfdjmcabnkabGreat
namespace Go.Proofs.YtcfbfdjmcabnkabGreat
open Go.ChangeShapes Go.WideShapes Go.ChangeAt Go.RowKit Go.Deep
open Go.ChangeMaps (open_string shut_string)
set_option linter.unusedVariables false
theorem own : ownKnob Tryz.prog.godebug = none := by kernel_rfl
theorem laidOut : laidOutB Tryz.prog = true := by kernel_rfl
theorem Tryz.cells26 : Tryz.prog.cellsOf 26 = 6 := by kernel_rfl
theorem Tryz.cells3 : Tryz.prog.cellsOf 3 = 1 := by kernel_rfl
theorem Tryz.cells9 : Tryz.prog.cellsOf 9 = 1 := by kernel_rfl
theorem op_open {H : Type} {enc : TypeId × Value -> H} {w : World} {base : Nat} {spare : Nat -> Bool} {held : Bool} {fuel : Nat} {cs : List Value} {x : DataW H × List MemPlace}
   (h : DataW.trod enc Tryz.prog w base spare held fuel 26 cs = some x) :
   ∃ k n g f s c, cs = [.int .i64 k, .int .i64 n, .string g, .string f, .string s, .string c] ∧ (Lit.int .i64 k).wf = true ∧ (Lit.int .i64 n).wf = true ∧ g.size <= maxLen ∧ f.size <= maxLen ∧ s.size <= maxLen ∧ c.size <= maxLen := by
 obtain ⟨xs, m, _, _, hl, hlen, hf⟩ := DataW.trod_struct Tryz.underlying26 h
 rw [Tryz.cells26] at hl
 match cs, hl with
 | [c0, c1, c2, c3, c4, c5], _ =>
   match xs, hlen with
   | [y0, y1, y2, y3, y4, y5], _ =>
     have f0 : DataW.trod enc Tryz.prog w base spare held m 3 (([c0, c1, c2, c3, c4, c5].drop 0).take (Tryz.prog.cellsOf 3)) = some y0 := hf 0 _ rfl
     have f1 : DataW.trod enc Tryz.prog w base spare held m 3 (([c0, c1, c2, c3, c4, c5].drop 1).take (Tryz.prog.cellsOf 3)) = some y1 := hf 1 _ rfl
     have f2 : DataW.trod enc Tryz.prog w base spare held m 9 (([c0, c1, c2, c3, c4, c5].drop 2).take (Tryz.prog.cellsOf 9)) = some y2 := hf 2 _ rfl
     have f3 : DataW.trod enc Tryz.prog w base spare held m 9 (([c0, c1, c2, c3, c4, c5].drop 3).take (Tryz.prog.cellsOf 9)) = some y3 := hf 3 _ rfl
     have f4 : DataW.trod enc Tryz.prog w base spare held m 9 (([c0, c1, c2, c3, c4, c5].drop 4).take (Tryz.prog.cellsOf 9)) = some y4 := hf 4 _ rfl
     have f5 : DataW.trod enc Tryz.prog w base spare held m 9 (([c0, c1, c2, c3, c4, c5].drop 5).take (Tryz.prog.cellsOf 9)) = some y5 := hf 5 _ rfl
     rw [Tryz.cells3] at f0 f1
     rw [Tryz.cells9] at f2 f3 f4 f5
     obtain ⟨k, e0, _, wk⟩ := DataW.trod_int Tryz.underlying3 f0
     obtain ⟨n, e1, _, wn⟩ := DataW.trod_int Tryz.underlying3 f1
     obtain ⟨g, e2, _, lg⟩ := DataW.trod_string Tryz.underlying9 f2
     obtain ⟨f, e3, _, lf⟩ := DataW.trod_string Tryz.underlying9 f3
     obtain ⟨s, e4, _, ls⟩ := DataW.trod_string Tryz.underlying9 f4
     obtain ⟨c, e5, _, lc⟩ := DataW.trod_string Tryz.underlying9 f5
     simp at e0 e1 e2 e3 e4 e5
     subst e0 e1 e2 e3 e4 e5
     exact ⟨k, n, g, f, s, c, rfl, wk, wn, lg, lf, ls, lc⟩
theorem ops_open {H : Type} {enc : TypeId × Value -> H} {w : World} {fuel : Nat} {a : Option Addr} {len cap : Nat} {x : DataW H × List MemPlace}
   (h : DataW.trod enc Tryz.prog w 0 (fun _ => true) true fuel 22 [.slice a len cap] = some x) (hlt : ∀ y ∈ x.2, y.block < w.heap.size) : IsOps w a len cap := by
 rcases open_slice Tryz.underlying22 h with ⟨hcs, _⟩ | ⟨b, l, c, m, n, D, Pl, hcs, _, hl, hm, hmm, hx, hel⟩
 · simp only [List.cons.injEq, Value.slice.injEq, and_true] at hcs
   exact .inl hcs.2.1
 · simp only [List.cons.injEq, Value.slice.injEq, and_true] at hcs
   obtain ⟨rfl, rfl, rfl⟩ := hcs
   simp only [if_true] at hmm
   subst hmm
   rw [Tryz.cells26] at hel
   by_cases h0 : len = 0
   · exact .inl h0
   · obtain ⟨cs0, hc0, _⟩ := hel 0 (by omega)
     obtain ⟨_, hl0, hcell⟩ := World.cells?_some hc0
     have h1 := hcell 0 (by omega)
     rw [List.getElem?_eq_getElem (by omega), add_add] at h1
     obtain ⟨blk, off, spot⟩ := b
     have hspot : spot = none := by simpa [Addr.add] using World.cell?_spot h1
     subst hspot
     refine .inr ⟨blk, off, rfl, block_lt_of_cell h1, hl, hm, fun i hi => ?_⟩
     obtain ⟨cs, hc, ht⟩ := hel i (by omega)
     obtain ⟨k, n, g, f, s, c, rfl, wk, wn, lg, lf, ls, lc⟩ := op_open ht
     obtain ⟨_, _, hcl⟩ := World.cells?_some hc
     have q0 := hcl 0 (by omega)
     have q1 := hcl 1 (by omega)
     have q2 := hcl 2 (by omega)
     have q3 := hcl 3 (by omega)
     have q4 := hcl 4 (by omega)
     have q5 := hcl 5 (by omega)
     rw [add_add, add_plain] at q0 q1 q2 q3 q4 q5
     exact ⟨k, n, g, f, s, c, q0, q1, q2, q3, q4, q5, wk, wn, lg, lf, ls, lc⟩
end Go.Proofs.YtcfbfdjmcabnkabGreat
