import Derived.Deep.AppendLies
import Derived.Deep.RegionHeld3
import Derived.BigQuiet
import Derived.Deep.RegionLaw
import Derived.BigRegion
import Derived.Test.YtcfbfdjmcabnkaaG2
import Derived.Test.YtcfbfdjmcabnkaaG1
import Derived.Test.YtcfbfdjmcabnkaaG4
import Derived.Test.YtcfbfdjmcabnkaaG3
namespace Go.Proofs.Ytcfbfdjmcabnkaa
open Go.RowKit Fw
open Go.Deep (BT)
set_option linter.unusedVariables false

/-- a node: sign, ways, the parts' numbers, nest -/
abbrev Nd := Nat × Nat × Nat × Nat × Nat
def five (x : Nd) : List Value := [.int .u8 (x.1 : Int), .int .u8 (x.2.1 : Int), .int .i64 (x.2.2.1 : Int), .int .i64 (x.2.2.2.1 : Int), .int .i64 (x.2.2.2.2 : Int)]
def flatN (ns : List Nd) : List Value := ns.flatMap five

theorem flatN_snoc (ns : List Nd) (x : Nd) : flatN (ns ++ [x]) = flatN ns ++ five x := by simp [flatN]

theorem flatN_get (x : Nd) : ∀ (ns : List Nd) (i j : Nat), ns[i]? = some x → j < 5 → (flatN ns)[i * 5 + j]? = (five x)[j]? := by
  intro ns
  induction ns with
  | nil => intro i j h; simp at h
  | cons y r ih =>
    intro i j h hj
    cases i with
    | zero =>
      simp at h
      subst h
      show (five y ++ flatN r)[0 * 5 + j]? = _
      rw [List.getElem?_append_left (by simp [five]; omega)]
      simp
    | succ i =>
      have h' := ih i j (by simpa using h) hj
      show (five y ++ flatN r)[(i + 1) * 5 + j]? = _
      rw [List.getElem?_append_right (by simp [five]; omega)]
      rw [show (i + 1) * 5 + j - (five y).length = i * 5 + j from by simp [five]; omega]
      exact h'

/-- block b is a reader at place p, v the nodes so far -/
structure Rd (w : World) (b : Nat) (s : ByteArray) (p : Nat) (v : Value) (ns : List Nd) : Prop where
  lt : b < w.heap.size
  c0 : w.cell? ⟨b, 0, none⟩ = some (.string s)
  c1 : w.cell? ⟨b, 1, none⟩ = some (.int .i64 (p : Int))
  c2 : w.cell? ⟨b, 2, none⟩ = some v
  fz : ∀ o, o < 3 → w.frozen? ⟨b, o, none⟩ = false
  own : w.ownsRow (b + 1) 84 5 v ns.length (flatN ns)

/-- of what was there, only block b and the nodes' own row may have turned -/
structure Kp (b : Nat) (v v' : Value) (w w' : World) : Prop where
  os : w'.os = w.os
  tape : w'.tape = w.tape
  output : w'.output = w.output
  size : w.heap.size ≤ w'.heap.size
  keep : ∀ k, k < w.heap.size → k ≠ b → v.ownBlock ≠ some k → w'.heap[k]? = w.heap[k]?
  at' : v'.ownBlock = v.ownBlock ∨ ∃ g, v'.ownBlock = some g ∧ w.heap.size ≤ g

theorem Kp.refl (b : Nat) (v : Value) (w : World) : Kp b v v w w := ⟨rfl, rfl, rfl, Nat.le_refl _, fun _ _ _ _ => rfl, .inl rfl⟩
theorem Kp.trans {b : Nat} {v v' v'' : Value} {w w' w'' : World} (h : Kp b v v' w w') (k : Kp b v' v'' w' w'') : Kp b v v'' w w'' := by
  refine ⟨k.os.trans h.os, k.tape.trans h.tape, k.output.trans h.output, Nat.le_trans h.size k.size, ?_, ?_⟩
  · intro x hx hb hv
    have h1 := h.keep x hx hb hv
    have hv' : v'.ownBlock ≠ some x := by
      rcases h.at' with e | ⟨g, e, hg⟩
      · rw [e]; exact hv
      · rw [e]; intro e2; injection e2 with e2; omega
    rw [k.keep x (by have := h.size; omega) hb hv', h1]
  · rcases k.at' with e | ⟨g, e, hg⟩
    · rcases h.at' with e2 | ⟨g, e2, hg⟩
      · exact .inl (e.trans e2)
      · exact .inr ⟨g, e.trans e2, hg⟩
    · exact .inr ⟨g, e, by have := h.size; omega⟩
theorem Kp.drewN {b : Nat} {v v' : Value} {w w' : World} (h : Kp b v v' w w') (n : Nat) : Kp b v v' w (w'.drewN n) := ⟨h.os, h.tape, h.output, h.size, h.keep, h.at'⟩
theorem Kp.setB {b : Nat} {v v' : Value} {w w' : World} (h : Kp b v v' w w') (o : Nat) (u : Value) : Kp b v v' w (w'.setCell ⟨b, o, none⟩ u) :=
  ⟨h.os, h.tape, h.output, by simpa using h.size, fun k h1 h2 h3 => (Below.heap_setCell _ _ _ _ h2).trans (h.keep k h1 h2 h3), h.at'⟩

theorem Rd.drewN {w : World} {b p : Nat} {s : ByteArray} {v : Value} {ns : List Nd} (h : Rd w b s p v ns) (n : Nat) : Rd (w.drewN n) b s p v ns := ⟨h.lt, h.c0, h.c1, h.c2, h.fz, h.own⟩

theorem addr_ne3 {b o p : Nat} (h : o ≠ p) : (⟨b, o, none⟩ : Addr) ≠ ⟨b, p, none⟩ := by
  intro e
  injection e
  contradiction
theorem cell_otherY {w : World} {a b : Addr} {v : Value} (h : a ≠ b) : (w.setCell a v).cell? b = w.cell? b := World.cell?_setCell_other _ _ _ _ h
theorem cell_sameY {w : World} {a : Addr} {u v : Value} (h : w.cell? a = some u) : (w.setCell a v).cell? a = some v := World.cell?_setCell_same _ _ _ h

theorem Rd.move {w : World} {b p : Nat} {s : ByteArray} {v : Value} {ns : List Nd} (h : Rd w b s p v ns) : Rd (w.setCell ⟨b, 1, none⟩ (.int .i64 ((p : Int) + 1))) b s (p + 1) v ns := by
  refine ⟨by simpa using h.lt, ?_, ?_, ?_, ?_, ?_⟩
  · rw [cell_otherY (addr_ne3 (by omega))]; exact h.c0
  · rw [cell_sameY h.c1]; simp
  · rw [cell_otherY (addr_ne3 (by omega))]; exact h.c2
  · intro o ho
    rw [World.frozen?_setCell]
    exact h.fz o ho
  · exact ownsRow_setCell_below h.own (by simp) _

theorem stands_is (s : ByteArray) (p : Nat) (c : Nat) (w : World) (hs : s.size ≤ 210) (hp : p ≤ 211) (hc : c < 256) :
    Calls Try.prog 78 #[.string s, .int .i64 p, .int .u8 c] w fun e w' => e = .returned (.bool (isAt s p c)) ∧ w' = w := stands_any s p c w hs hp hc

set_option maxRecDepth 100000 in
set_option maxHeartbeats 1000000 in
theorem skip1_any (b p c : Nat) (s : ByteArray) (v : Value) (ns : List Nd) (w : World) (hs : s.size ≤ 30) (hp : p ≤ s.size) (hc : c < 256) (HR : Hid (Rd w b s p v ns)) :
    Calls Try.prog 73 #[.pointer (some ⟨b, 0, none⟩), .int .u8 (c : Int)] w fun e w' =>
      (isAt s p c = true ∧ e = .returned (.bool true) ∧ Rd w' b s (p + 1) v ns ∧ Kp b v v w w') ∨
      (isAt s p c = false ∧ e = .returned (.bool false) ∧ Rd w' b s p v ns ∧ Kp b v v w w') := by
  have c0 := HR.out.c0
  have c1 := HR.out.c1
  have f1 := HR.out.fz 1 (by omega)
  cases hA : isAt s p c with
  | true =>
    have HA : Hid (isAt s p c = true) := hA
    go_enter Try.func73, Try.ntmps73
    go_wp2_with fail
    go_quiet ((go_at_call 78; exact Calls.quiet_of_same (stands_is s p c _ (by omega) (by omega) hc)))
    go_wp2_with fail
    go_ret
    exact .inl ⟨by first | exact HA.out | trivial, rfl, (HR.out.drewN _).move, ((Kp.refl _ _ _).drewN _).setB 1 _⟩
  | false =>
    have HA : Hid (isAt s p c = false) := hA
    go_enter Try.func73, Try.ntmps73
    go_wp2_with fail
    go_quiet ((go_at_call 78; exact Calls.quiet_of_same (stands_is s p c _ (by omega) (by omega) hc)))
    go_wp2_with fail
    go_ret
    exact .inr ⟨by first | exact HA.out | trivial, rfl, HR.out.drewN _, (Kp.refl _ _ _).drewN _⟩

end Go.Proofs.Ytcfbfdjmcabnkaa

namespace Go.Proofs.Ytcfbfdjmcabnkaa
open Go.RowKit Fw
open Go.Deep (BT)
set_option linter.unusedVariables false

theorem Try.info84 : (Try.prog.info? 84).map (fun i => (i.zero, i.size, i.bytes)) = some (some (.agg #[.int .u8 0, .int .u8 0, .int .i64 0, .int .i64 0, .int .i64 0]), 5, 32) := by kernel_rfl

theorem Rd.form {w : World} {b p : Nat} {s : ByteArray} {v : Value} {ns : List Nd} (h : Rd w b s p v ns) : ∃ a cap, v = .slice a ns.length cap := by
  rcases h.own.2 with ⟨h1, h2⟩ | ⟨g, cap, cur, h1, _⟩
  · exact ⟨none, 0, by rw [h1, h2]⟩
  · exact ⟨_, _, h1⟩

theorem Rd.alloc {w : World} {b p : Nat} {s : ByteArray} {v : Value} {ns : List Nd} (h : Rd w b s p v ns) (o : Obj) : Rd (w.alloc o) b s p v ns := by
  have hb : ∀ a : Addr, a.block = b → (w.alloc o).cell? a = w.cell? a := fun a ha => World.cell?_of_block (w := w) (Below.heap_alloc _ _ _ (by rw [ha]; exact h.lt))
  have hf : ∀ a : Addr, a.block = b → (w.alloc o).frozen? a = w.frozen? a := fun a ha => World.frozen?_of_block (w := w) (Below.heap_alloc _ _ _ (by rw [ha]; exact h.lt))
  refine ⟨by have := h.lt; simp; omega, (hb _ rfl).trans h.c0, (hb _ rfl).trans h.c1, (hb _ rfl).trans h.c2, fun o ho => (hf _ rfl).trans (h.fz o ho), h.own.alloc o⟩

theorem Kp.alloc {b : Nat} {v v' : Value} {w w' : World} (h : Kp b v v' w w') (o : Obj) : Kp b v v' w (w'.alloc o) :=
  ⟨h.os, h.tape, h.output, by have := h.size; simp; omega, fun k h1 h2 h3 => (Below.heap_alloc _ _ _ (by have := h.size; omega)).trans (h.keep k h1 h2 h3), h.at'⟩

theorem add_fin {w W w1 : World} {b p gg cap2 : Nat} {s : ByteArray} {v : Value} {ns : List Nd} {x : Nd} {l5 : List Value} {o : Obj} (hr : Rd W b s p v ns) (hk : Kp b v v w W)
    (hown1 : w1.ownsRow (b + 1) 84 5 (.slice (some ⟨gg, 0, none⟩) (ns.length + 1) cap2) (ns.length + 1) (flatN ns ++ l5)) (h5 : l5 = five x)
    (hgrow : (W.alloc o).drew.grownBy w1 v.ownBlock) (hat : v.ownBlock = some gg ∨ gg = W.heap.size + 1) :
    ∃ v', Rd (w1.setCell ⟨b, 2, none⟩ (.slice (some ⟨gg, 0, none⟩) (ns.length + 1) cap2)) b s p v' (ns ++ [x]) ∧ Kp b v v' w (w1.setCell ⟨b, 2, none⟩ (.slice (some ⟨gg, 0, none⟩) (ns.length + 1) cap2)) := by
  have hlt := hr.lt
  have ab : some b ≠ v.ownBlock := fun e => by have := (hr.own.lt _ e.symm).1; omega
  have hra := hr.alloc o
  have hsz : W.heap.size + 1 ≤ w1.heap.size := by have := hgrow.size; simpa using this
  have hks := hk.size
  have hc : ∀ j, w1.cell? ⟨b, j, none⟩ = (W.alloc o).cell? ⟨b, j, none⟩ := fun j => hgrow.cell_far ⟨b, j, none⟩ (by simp; omega) ab
  have hf : ∀ j, w1.frozen? ⟨b, j, none⟩ = (W.alloc o).frozen? ⟨b, j, none⟩ := fun j => hgrow.frozen_far ⟨b, j, none⟩ (by simp; omega) ab
  refine ⟨.slice (some ⟨gg, 0, none⟩) (ns.length + 1) cap2, ⟨by simp; omega, ?_, ?_, ?_, ?_, ?_⟩, ⟨?_, ?_, ?_, ?_, ?_, ?_⟩⟩
  · rw [cell_otherY (addr_ne3 (by omega)), hc]; exact hra.c0
  · rw [cell_otherY (addr_ne3 (by omega)), hc]; exact hra.c1
  · exact cell_sameY ((hc 2).trans hra.c2)
  · intro j hj
    rw [World.frozen?_setCell, hf]
    exact hra.fz j hj
  · have := ownsRow_setCell_below hown1 (a := ⟨b, 2, none⟩) (by simp) (.slice (some ⟨gg, 0, none⟩) (ns.length + 1) cap2)
    rw [h5, ← flatN_snoc] at this
    simpa using this
  · exact hgrow.os.trans hk.os
  · exact hgrow.tape.trans hk.tape
  · exact hgrow.output.trans hk.output
  · simp; omega
  · intro k h1 h2 h3
    rw [Below.heap_setCell _ _ _ _ h2, hgrow.block k (by simp; omega) (fun e => h3 e.symm)]
    exact (Below.heap_alloc W o k (by omega)).trans (hk.keep k h1 h2 h3)
  · rcases hat with e | e
    · exact .inl e.symm
    · exact .inr ⟨gg, rfl, by omega⟩

set_option maxRecDepth 100000 in
set_option maxHeartbeats 3200000 in
theorem add_any (b p sg wy li ri k : Nat) (s : ByteArray) (v : Value) (ns : List Nd) (w : World) (hn : ns.length ≤ 1000) (hk : k ≤ 1000) (HR : Hid (Rd w b s p v ns)) :
    Calls Try.prog 50 #[.pointer (some ⟨b, 0, none⟩), .agg #[.int .u8 (sg : Int), .int .u8 (wy : Int), .int .i64 (li : Int), .int .i64 (ri : Int), .int .i64 (k : Int)]] w fun e w' =>
      e = .returned (.int .i64 (ns.length : Int)) ∧ ∃ v', Rd w' b s p v' (ns ++ [(sg, wy, li, ri, k + (if wy = 0 then 0 else 1))]) ∧ Kp b v v' w w' := by
  obtain ⟨i0, hi0, hz0, hz1, hz2⟩ := info_parts Try.info84
  obtain ⟨a, cap, rfl⟩ := HR.out.form
  have c2 := HR.out.c2
  have f2 := HR.out.fz 2 (by omega)
  have hlt := HR.out.lt
  by_cases hw : wy = 0
  · subst hw
    go_enter Try.func50, Try.ntmps50
    go_wp2_with fail
    generalize hW : w.alloc (Obj.cells #[Value.int IntKind.u8 ↑sg, Value.int IntKind.u8 0, Value.int IntKind.i64 ↑li, Value.int IntKind.i64 ↑ri, Value.int IntKind.i64 ↑k] 84) = W
    have HRW : Hid (Rd W b s p (.slice a ns.length cap) ns) := by show Rd _ _ _ _ _ _; rw [← hW]; exact HR.out.alloc _
    have HKW : Hid (Kp b (.slice a ns.length cap) (.slice a ns.length cap) w W) := by show Kp _ _ _ _ _; rw [← hW]; exact (Kp.refl _ _ _).alloc _
    have q0 : W.cell? ⟨w.heap.size, 0, none⟩ = some (Value.int IntKind.u8 ↑sg) := by rw [← hW]; simp
    have q1 : W.cell? ⟨w.heap.size, 1, none⟩ = some (Value.int IntKind.u8 0) := by rw [← hW]; simp
    have q2 : W.cell? ⟨w.heap.size, 2, none⟩ = some (Value.int IntKind.i64 ↑li) := by rw [← hW]; simp
    have q3 : W.cell? ⟨w.heap.size, 3, none⟩ = some (Value.int IntKind.i64 ↑ri) := by rw [← hW]; simp
    have q4 : W.cell? ⟨w.heap.size, 4, none⟩ = some (Value.int IntKind.i64 ↑k) := by rw [← hW]; simp
    have hWs : w.heap.size < W.heap.size := by rw [← hW]; simp
    have d2 := HRW.out.c2
    have hca : ∀ o, (W.alloc o).cell? ⟨b, 2, none⟩ = some (.slice a ns.length cap) := fun o => (HRW.out.alloc o).c2
    have HFA : Hid (∀ o, (W.alloc o).frozen? ⟨b, 2, none⟩ = false) := fun o => (HRW.out.alloc o).fz 2 (by omega)
    have g2 := HRW.out.fz 2 (by omega)
    have hown := HRW.out.own
    have ab : (Value.slice a ns.length cap).ownBlock ≠ some b := fun e => by have := (HR.out.own.lt _ e).1; omega
    have aw : (Value.slice a ns.length cap).ownBlock ≠ some w.heap.size := fun e => by have := (HR.out.own.lt _ e).2; omega
    have HW : Hid (w.alloc (Obj.cells #[Value.int IntKind.u8 ↑sg, Value.int IntKind.u8 0, Value.int IntKind.i64 ↑li, Value.int IntKind.i64 ↑ri, Value.int IntKind.i64 ↑k] 84) = W) := hW
    clear hW c2 f2
    go_region_law ((refine step_append_lies _ (by rfl) _ _ _ (by rfl) (b + 1) 84 i0 _ 5 32 Try.underlying59 hi0 hz0 hz1 hz2 rfl (by omega) (.slice a ns.length cap) ns.length (flatN ns) (by rfl) ((hown.alloc _).drew) ⟨W.heap.size, 0, none⟩ 1 1 [Value.int IntKind.u8 ↑sg, Value.int IntKind.u8 0, Value.int IntKind.i64 ↑li, Value.int IntKind.i64 ↑ri, Value.int IntKind.i64 ↑k] (by rfl) (by rfl) (World.news_of_block (cs := #[Value.int IntKind.u8 ↑sg, Value.int IntKind.u8 0, Value.int IntKind.i64 ↑li, Value.int IntKind.i64 ↑ri, Value.int IntKind.i64 ↑k]) (t := 84) (fr := (0, 0)) (heap_alloc_new W _)) (by simp [Value.oneCell']) (by omega) (by unfold maxLen; omega) (by omega) (by simp; omega) (W.heap.size + 1) (by simp) ?_; intro gg cap2 w1 hown1 hgrow hat hlt1; have hfz1 : w1.frozen? ⟨b, 2, none⟩ = false := (hgrow.frozen_far ⟨b, 2, none⟩ (by simp; omega) (Ne.symm ab)).trans (HFA.out _); have hcl1 : w1.cell? ⟨b, 2, none⟩ = some (.slice a ns.length cap) := (hgrow.cell_far ⟨b, 2, none⟩ (by simp; omega) (Ne.symm ab)).trans (hca _)))
    all_goals
      go_wp2
      go_ret
      exact ⟨rfl, add_fin HRW.out HKW.out hown1 (by simp [five]) hgrow hat⟩
  · have hw' : ((wy : Int) != 0) = true := by rw [bne_iff_ne]; omega
    go_enter Try.func50, Try.ntmps50
    go_wp2_with fail
    generalize hW : w.alloc (Obj.cells #[Value.int IntKind.u8 ↑sg, Value.int IntKind.u8 ↑wy, Value.int IntKind.i64 ↑li, Value.int IntKind.i64 ↑ri, Value.int IntKind.i64 ((k : Int) + 1)] 84) = W
    have HRW : Hid (Rd W b s p (.slice a ns.length cap) ns) := by show Rd _ _ _ _ _ _; rw [← hW]; exact HR.out.alloc _
    have HKW : Hid (Kp b (.slice a ns.length cap) (.slice a ns.length cap) w W) := by show Kp _ _ _ _ _; rw [← hW]; exact (Kp.refl _ _ _).alloc _
    have q0 : W.cell? ⟨w.heap.size, 0, none⟩ = some (Value.int IntKind.u8 ↑sg) := by rw [← hW]; simp
    have q1 : W.cell? ⟨w.heap.size, 1, none⟩ = some (Value.int IntKind.u8 ↑wy) := by rw [← hW]; simp
    have q2 : W.cell? ⟨w.heap.size, 2, none⟩ = some (Value.int IntKind.i64 ↑li) := by rw [← hW]; simp
    have q3 : W.cell? ⟨w.heap.size, 3, none⟩ = some (Value.int IntKind.i64 ↑ri) := by rw [← hW]; simp
    have q4 : W.cell? ⟨w.heap.size, 4, none⟩ = some (Value.int IntKind.i64 ((k : Int) + 1)) := by rw [← hW]; simp
    have hWs : w.heap.size < W.heap.size := by rw [← hW]; simp
    have d2 := HRW.out.c2
    have hca : ∀ o, (W.alloc o).cell? ⟨b, 2, none⟩ = some (.slice a ns.length cap) := fun o => (HRW.out.alloc o).c2
    have HFA : Hid (∀ o, (W.alloc o).frozen? ⟨b, 2, none⟩ = false) := fun o => (HRW.out.alloc o).fz 2 (by omega)
    have g2 := HRW.out.fz 2 (by omega)
    have hown := HRW.out.own
    have ab : (Value.slice a ns.length cap).ownBlock ≠ some b := fun e => by have := (HR.out.own.lt _ e).1; omega
    have aw : (Value.slice a ns.length cap).ownBlock ≠ some w.heap.size := fun e => by have := (HR.out.own.lt _ e).2; omega
    have HW : Hid (w.alloc (Obj.cells #[Value.int IntKind.u8 ↑sg, Value.int IntKind.u8 ↑wy, Value.int IntKind.i64 ↑li, Value.int IntKind.i64 ↑ri, Value.int IntKind.i64 ((k : Int) + 1)] 84) = W) := hW
    clear hW c2 f2
    go_region_law ((refine step_append_lies _ (by rfl) _ _ _ (by rfl) (b + 1) 84 i0 _ 5 32 Try.underlying59 hi0 hz0 hz1 hz2 rfl (by omega) (.slice a ns.length cap) ns.length (flatN ns) (by rfl) ((hown.alloc _).drew) ⟨W.heap.size, 0, none⟩ 1 1 [Value.int IntKind.u8 ↑sg, Value.int IntKind.u8 ↑wy, Value.int IntKind.i64 ↑li, Value.int IntKind.i64 ↑ri, Value.int IntKind.i64 ((k : Int) + 1)] (by rfl) (by rfl) (World.news_of_block (cs := #[Value.int IntKind.u8 ↑sg, Value.int IntKind.u8 ↑wy, Value.int IntKind.i64 ↑li, Value.int IntKind.i64 ↑ri, Value.int IntKind.i64 ((k : Int) + 1)]) (t := 84) (fr := (0, 0)) (heap_alloc_new W _)) (by simp [Value.oneCell']) (by omega) (by unfold maxLen; omega) (by omega) (by simp; omega) (W.heap.size + 1) (by simp) ?_; intro gg cap2 w1 hown1 hgrow hat hlt1; have hfz1 : w1.frozen? ⟨b, 2, none⟩ = false := (hgrow.frozen_far ⟨b, 2, none⟩ (by simp; omega) (Ne.symm ab)).trans (HFA.out _); have hcl1 : w1.cell? ⟨b, 2, none⟩ = some (.slice a ns.length cap) := (hgrow.cell_far ⟨b, 2, none⟩ (by simp; omega) (Ne.symm ab)).trans (hca _)))
    all_goals
      go_wp2
      go_ret
      exact ⟨rfl, add_fin HRW.out HKW.out hown1 (by simp [five]) hgrow hat⟩

end Go.Proofs.Ytcfbfdjmcabnkaa

namespace Go.Proofs.Ytcfbfdjmcabnkaa
open Go.RowKit Fw
open Go.Deep (BT)
set_option linter.unusedVariables false

/-- node i of the list is the formula -/
def Rep (ns : List Nd) : Fm → Nat → Prop
  | .nil, _ => True
  | .node sg wy u l r, i => ∃ li ri, ns[i]? = some (sg, wy, li, ri, nst (.node sg wy u l r)) ∧ Rep ns l li ∧ Rep ns r ri

theorem Rep.more {ns : List Nd} (ms : List Nd) : ∀ {t : Fm} {i : Nat}, Rep ns t i → Rep (ns ++ ms) t i := by
  intro t
  induction t with
  | nil => intro i _; trivial
  | node sg wy u l r ihl ihr =>
    intro i h
    obtain ⟨li, ri, h1, h2, h3⟩ := h
    refine ⟨li, ri, ?_, ihl h2, ihr h3⟩
    rw [List.getElem?_append_left (List.getElem?_eq_some_iff.1 h1).1]
    exact h1

theorem Rep.lt {ns : List Nd} {t : Fm} {i : Nat} (h : Rep ns t i) (hg : good t) : i < ns.length ∧ ∃ x : Nd, ns[i]? = some x ∧ x.2.2.2.2 = nst t := by
  cases t with
  | nil => exact absurd hg (by simp [good])
  | node sg wy u l r =>
    obtain ⟨li, ri, h1, _, _⟩ := h
    exact ⟨(List.getElem?_eq_some_iff.1 h1).1, _, h1, rfl⟩

/-- the parts of a node lie ahead of it -/
def Clo (ns : List Nd) : Prop := ∀ (k : Nat) (x : Nd), ns[k]? = some x → ((isAtom x.1 = true ∧ x.2.2.1 = 0 ∧ x.2.2.2.1 = 0) ∨ (x.2.2.1 < k ∧ x.2.2.2.1 < k)) ∧ ((isAtom x.1 = true → x.2.2.1 = 0 ∧ x.2.2.2.1 = 0) ∧ (x.1 = 88 → x.2.2.2.1 = 0))
theorem clo_nil : Clo [] := fun k x h => by simp at h
theorem Clo.snoc {ns : List Nd} (h : Clo ns) {x : Nd} (hx : ((isAtom x.1 = true ∧ x.2.2.1 = 0 ∧ x.2.2.2.1 = 0) ∨ (x.2.2.1 < ns.length ∧ x.2.2.2.1 < ns.length)) ∧ ((isAtom x.1 = true → x.2.2.1 = 0 ∧ x.2.2.2.1 = 0) ∧ (x.1 = 88 → x.2.2.2.1 = 0))) : Clo (ns ++ [x]) := by
  intro k y hy
  by_cases hk : k < ns.length
  · rw [List.getElem?_append_left hk] at hy
    exact h k y hy
  · have hl := (List.getElem?_eq_some_iff.1 hy).1
    simp at hl
    obtain rfl : k = ns.length := by omega
    rw [List.getElem?_append_right (Nat.le_refl _)] at hy
    simp at hy
    subst hy
    exact hx
/-- a node of the list is the formula; and what was in order stays so -/
def RepC (ns0 ns : List Nd) (t : Fm) (i : Nat) : Prop := Rep ns t i ∧ (Clo ns0 → Clo ns)

theorem own_set {w : World} {base : Nat} {e : TypeId} {size : Nat} {v : Value} {n : Nat} {xs : List Value} (h : w.ownsRow base e size v n xs) {a : Addr} (ha : v.ownBlock ≠ some a.block) (u : Value) : (w.setCell a u).ownsRow base e size v n xs := by
  obtain ⟨h1, h2⟩ := h
  refine ⟨h1, ?_⟩
  rcases h2 with h2 | ⟨g, cap, cur, hv, hg, hh, r⟩
  · exact Or.inl h2
  · have hne : g ≠ a.block := by
      intro e
      apply ha
      rw [hv, ← e]
      rfl
    exact Or.inr ⟨g, cap, cur, hv, hg, by rw [Below.heap_setCell _ _ _ _ hne]; exact hh, r⟩

theorem addr_nb {b c o p : Nat} (h : b ≠ c) : (⟨b, o, none⟩ : Addr) ≠ ⟨c, p, none⟩ := by
  intro e
  injection e
  contradiction

theorem Rd.setOther {w : World} {b p : Nat} {s : ByteArray} {v : Value} {ns : List Nd} (h : Rd w b s p v ns) {H o : Nat} (u : Value) (h1 : H ≠ b) (h2 : v.ownBlock ≠ some H) : Rd (w.setCell ⟨H, o, none⟩ u) b s p v ns := by
  refine ⟨by simpa using h.lt, ?_, ?_, ?_, ?_, own_set h.own h2 u⟩
  · rw [cell_otherY (addr_nb h1)]; exact h.c0
  · rw [cell_otherY (addr_nb h1)]; exact h.c1
  · rw [cell_otherY (addr_nb h1)]; exact h.c2
  · intro j hj
    rw [World.frozen?_setCell]
    exact h.fz j hj

theorem Kp.setNew {b : Nat} {v v' : Value} {w w' : World} (h : Kp b v v' w w') {H o : Nat} (u : Value) (hH : w.heap.size ≤ H) : Kp b v v' w (w'.setCell ⟨H, o, none⟩ u) :=
  ⟨h.os, h.tape, h.output, by simpa using h.size, fun k h1 h2 h3 => (Below.heap_setCell _ _ _ _ (by simp; omega)).trans (h.keep k h1 h2 h3), h.at'⟩

/-- what reading a part leaves: x is what reading comes to -/
def Out (x : Bool × List UInt8 × Fm) (b : Nat) (s : ByteArray) (d : Nat) (v : Value) (ns : List Nd) (w : World) (e : Ending) (w' : World) : Prop :=
  ∃ v' ns', Rd w' b s (s.size - x.2.1.length) v' (ns ++ ns') ∧ Kp b v v' w w' ∧ (ns ++ ns').length + d ≤ s.size - x.2.1.length ∧
    ((x.1 = true ∧ ∃ i : Nat, e = .returned (.tuple #[.int .i64 (i : Int), .bool true]) ∧ RepC ns (ns ++ ns') x.2.2 i) ∨ (x.1 = false ∧ e = .returned (.tuple #[.int .i64 0, .bool false])))

/-- what readPart is to do, with n for fuel -/
def PartAt (n : Nat) : Prop := ∀ (b p d : Nat) (s : ByteArray) (v : Value) (ns : List Nd) (w : World), s.size ≤ 30 → p ≤ s.size → ns.length + d ≤ p → Hid (Rd w b s p v ns) → s.size - p < n →
  Calls Try.prog 38 #[.pointer (some ⟨b, 0, none⟩)] w fun e w' => Out (pt n (tl s p)) b s d v ns w e w'

theorem tl_len_pt (s : ByteArray) (p : Nat) (hp : p ≤ s.size) : s.size - (tl s p).length = p := by rw [tl_length]; omega

/-- what is left behind a part is what is left from some place on -/
theorem rest_tl {n : Nat} {s : ByteArray} {p : Nat} (hp : p ≤ s.size) (h : (pt n (tl s p)).1 = true) : p < s.size - (pt n (tl s p)).2.1.length ∧ (pt n (tl s p)).2.1 = tl s (s.size - (pt n (tl s p)).2.1.length) ∧ (pt n (tl s p)).2.1.length ≤ s.size := by
  obtain ⟨e, g⟩ := pt_sound n (tl s p) h
  have hl := rest_le (pt_sound n) h
  rw [tl_length] at hl
  refine ⟨by omega, ?_, by omega⟩
  generalize pt n (tl s p) = x at *
  have e2 : s.data.toList = (s.data.toList.take p ++ txt x.2.2) ++ x.2.1 := by
    rw [List.append_assoc, ← e]
    exact (List.take_append_drop p _).symm
  have hsz : s.size = (s.data.toList.take p ++ txt x.2.2).length + x.2.1.length := by
    rw [← List.length_append, ← e2]
    show s.data.size = _
    rw [Array.length_toList]
  unfold tl
  rw [show s.size - x.2.1.length = (s.data.toList.take p ++ txt x.2.2).length from by omega]
  generalize s.data.toList.take p ++ txt x.2.2 = y at e2 ⊢
  rw [e2, List.drop_left]

theorem greater_any (a b : Nat) (w : World) : Calls Try.prog 74 #[.int .i64 (a : Int), .int .i64 (b : Int)] w fun e w' => e = .returned (.int .i64 ((max a b : Nat) : Int)) ∧ w' = w := by
  by_cases h : (b : Int) < (a : Int)
  · go_enter Try.func74, Try.ntmps74
    go_wp2
    go_ret
    exact ⟨ret_int (by omega), rfl⟩
  · go_enter Try.func74, Try.ntmps74
    go_wp2
    go_ret
    exact ⟨ret_int (by omega), rfl⟩

/-- a node's nest, in memory -/
theorem Rd.nest {w : World} {b p : Nat} {s : ByteArray} {v : Value} {ns : List Nd} (h : Rd w b s p v ns) {t : Fm} {i : Nat} (hr : Rep ns t i) (hg : good t) :
    ∃ g cap, v = .slice (some ⟨g, 0, none⟩) ns.length cap ∧ i < ns.length ∧ b < g ∧ g < w.heap.size ∧ w.cell? ⟨g, i * 5 + 4, none⟩ = some (.int .i64 ((nst t : Nat) : Int)) := by
  obtain ⟨hi, x, hx, hn⟩ := hr.lt hg
  obtain ⟨g, cap, hv, hb, hlt⟩ := h.own.form (by omega)
  have hc := h.own.cells (g := g) (by rw [hv]; rfl) (i * 5 + 4) (.int .i64 ((nst t : Nat) : Int)) (by rw [flatN_get x ns i 4 hx (by omega), ← hn]; rfl)
  exact ⟨g, cap, hv, hi, by omega, hlt, by simpa [Addr.add] using hc⟩

theorem box_at {w w1 : World} {b p : Nat} {s : ByteArray} {v v' : Value} {ns : List Nd} {C : Array Value} {t : TypeId} (hr : Rd w b s p v ns) (hk : Kp b v v' (w.alloc (.cells C t)) w1) : w1.heap[w.heap.size]? = some (.cells C t) := by
  rw [hk.keep w.heap.size (by simp) (by have := hr.lt; omega) (fun e => by have := (hr.own.lt _ e).2; omega)]
  exact heap_alloc_new w _

theorem Kp.unbox {w w1 : World} {b : Nat} {v v' : Value} {o : Obj} (hk : Kp b v v' (w.alloc o) w1) : Kp b v v' w w1 := ((Kp.refl b v w).alloc o).trans hk

/-- the nodes' row is not the box -/
theorem row_ne {w w1 : World} {b p g len cap : Nat} {s : ByteArray} {v v' : Value} {ns : List Nd} {o : Obj} (hr : Rd w b s p v ns) (hk : Kp b v v' (w.alloc o) w1) (hv : v' = .slice (some ⟨g, 0, none⟩) len cap) : g ≠ w.heap.size := by
  have hg : v'.ownBlock = some g := by rw [hv]; rfl
  rcases hk.at' with e | ⟨g2, e, h2⟩
  · have := (hr.own.lt g (by rw [← e]; exact hg)).2
    omega
  · rw [hg] at e
    injection e with e
    simp at h2
    omega

theorem one_yes {sg wy : Nat} {x : Bool × List UInt8 × Fm} (h : x.1 = true) : one sg wy x = (true, x.2.1, .node sg wy () x.2.2 .nil) := by simp [one, h]
theorem one_no {sg wy : Nat} {x : Bool × List UInt8 × Fm} (h : x.1 = false) : one sg wy x = (false, x.2.1, .nil) := by simp [one, h]

theorem Rep.new {ns : List Nd} {sg wy li ri k : Nat} {l r : Fm} (hl : Rep ns l li) (hr : Rep ns r ri) (hk : k = max (nst l) (nst r)) :
    Rep (ns ++ [(sg, wy, li, ri, k + (if wy = 0 then 0 else 1))]) (.node sg wy () l r) ns.length := by
  refine ⟨li, ri, ?_, hl.more _, hr.more _⟩
  rw [List.getElem?_append_right (Nat.le_refl _)]
  simp [nst, hk, Nat.add_comm]

set_option maxRecDepth 100000 in
set_option maxHeartbeats 3200000 in
theorem readOne_any (n : Nat) (hP : PartAt n) (sg wy b p d : Nat) (hsa : isAtom sg = false) (s : ByteArray) (v : Value) (ns : List Nd) (w : World) (hs : s.size ≤ 30) (hp : p ≤ s.size) (hd : ns.length + (d + 1) ≤ p) (HR : Hid (Rd w b s p v ns)) (hn : s.size - p < n) :
    Calls Try.prog 51 #[.pointer (some ⟨b, 0, none⟩), .agg #[.int .u8 (sg : Int), .int .u8 (wy : Int), .int .i64 0, .int .i64 0, .int .i64 0]] w fun e w' => Out (one sg wy (pt n (tl s p))) b s d v ns w e w' := by
  go_enter Try.func51, Try.ntmps51
  go_wp2_with fail
  refine (hP b p (d + 1) s v ns _ hs hp hd (HR.out.alloc _) hn).mono ?_
  rintro e w1 ⟨v', ns', hrd, hkp, hlen, ⟨hx, i, rfl, hrep, hclo⟩ | ⟨hx, rfl⟩⟩
  · have HX : Hid (one sg wy (pt n (tl s p)) = (true, (pt n (tl s p)).2.1, .node sg wy () (pt n (tl s p)).2.2 .nil)) := one_yes hx
    have hsd := pt_sound n (tl s p) hx
    have hbox := box_at HR.out hkp
    have hle := nst_le (pt n (tl s p)).2.2 hsd.2
    have hle2 : nst (pt n (tl s p)).2.2 ≤ 30 := by
      have e1 := congrArg List.length hsd.1
      rw [List.length_append, tl_length] at e1
      omega
    obtain ⟨g, cap, hv, hi, hbg, hgl, hcell⟩ := hrd.nest hrep hsd.2
    have hgH := row_ne HR.out hkp hv
    obtain ⟨t, ht⟩ : ∃ t, t = (pt n (tl s p)).2.2 := ⟨_, rfl⟩
    obtain ⟨q, hq⟩ : ∃ q, q = (pt n (tl s p)).2.1 := ⟨_, rfl⟩
    rw [← ht] at hcell hrep HX hle2
    rw [← hq] at HX hrd hlen
    obtain ⟨ms, hms⟩ : ∃ ms, ms = ns ++ ns' := ⟨_, rfl⟩
    rw [← hms] at hrd hlen hrep hv hi hclo
    have HCLO : Hid (Clo ns → Clo ms) := hclo
    clear hclo
    have HMS : Hid (ms = ns ++ ns') := hms
    have HRD : Hid (Rd w1 b s (s.size - q.length) v' ms) := hrd
    have HKP : Hid (Kp b v v' w w1) := hkp.unbox
    have HREP : Hid (Rep ms t i) := hrep
    have hbH : b ≠ w.heap.size := by have := HR.out.lt; omega
    have hHb : w.heap.size ≠ b := by have := HR.out.lt; omega
    have hHg : w.heap.size ≠ g := Ne.symm hgH
    have hvH : v'.ownBlock ≠ some w.heap.size := by rw [hv]; intro e; injection e with e; exact hgH e
    have HVH : Hid (v'.ownBlock ≠ some w.heap.size) := hvH
    have k0 : w1.cell? ⟨w.heap.size, 0, none⟩ = some (.int .u8 (sg : Int)) := by rw [cell_of_row _ _ _ _ _ _ hbox]; rfl
    have k1 : w1.cell? ⟨w.heap.size, 1, none⟩ = some (.int .u8 (wy : Int)) := by rw [cell_of_row _ _ _ _ _ _ hbox]; rfl
    have k2 : w1.cell? ⟨w.heap.size, 2, none⟩ = some (.int .i64 0) := by rw [cell_of_row _ _ _ _ _ _ hbox]; rfl
    have k3 : w1.cell? ⟨w.heap.size, 3, none⟩ = some (.int .i64 0) := by rw [cell_of_row _ _ _ _ _ _ hbox]; rfl
    have k4 : w1.cell? ⟨w.heap.size, 4, none⟩ = some (.int .i64 0) := by rw [cell_of_row _ _ _ _ _ _ hbox]; rfl
    have z2 : w1.frozen? ⟨w.heap.size, 2, none⟩ = false := frozen_of_row _ _ _ _ _ hbox
    have z4 : w1.frozen? ⟨w.heap.size, 4, none⟩ = false := frozen_of_row _ _ _ _ _ hbox
    have c2 := hrd.c2
    rw [hv] at c2
    have hi2 : (i : Int) < (ms.length : Int) := by omega
    have hml : ms.length ≤ 1000 := by omega
    clear hx hrd hkp hbox hrep ht hq hsd hle hvH hms
    go_wp2_with fail
    refine (add_any b (s.size - q.length) sg wy i 0 (nst t) s v' ms _ hml (by omega) ((HRD.out.setOther _ hHb HVH.out).setOther _ hHb HVH.out)).mono ?_
    rintro e w2 ⟨rfl, v2, hrd2, hkp2⟩
    have HRD2 : Hid (Rd w2 b s (s.size - q.length) v2 (ms ++ [(sg, wy, i, 0, nst t + if wy = 0 then 0 else 1)])) := hrd2
    have HKP2 : Hid (Kp b v v2 w w2) := ((HKP.out.setNew _ (Nat.le_refl _)).setNew _ (Nat.le_refl _)).trans hkp2
    clear hrd2 hkp2
    go_wp2_with fail
    go_ret2
    show Out _ b s d v ns w _ _
    rw [HX.out]
    refine ⟨v2, ns' ++ [(sg, wy, i, 0, nst t + if wy = 0 then 0 else 1)], ?_, HKP2.out, ?_, .inl ⟨rfl, ms.length, rfl, ?_⟩⟩
    · rw [← List.append_assoc, ← HMS.out]; exact HRD2.out
    · rw [← List.append_assoc, ← HMS.out]; simp; omega
    · rw [← List.append_assoc, ← HMS.out]; exact ⟨HREP.out.new (l := t) (r := .nil) trivial (by simp [nst]), fun h => (HCLO.out h).snoc ⟨.inr ⟨hi, by show 0 < _; omega⟩, fun h2 => (by rw [show isAtom sg = false from hsa] at h2; cases h2), fun _ => rfl⟩⟩
  · have HX : Hid (one sg wy (pt n (tl s p)) = (false, (pt n (tl s p)).2.1, .nil)) := one_no hx
    have HRD : Hid (Rd w1 b s (s.size - (pt n (tl s p)).2.1.length) v' (ns ++ ns')) := hrd
    have HKP : Hid (Kp b v v' w w1) := hkp.unbox
    clear hx hrd hkp
    go_wp2_with fail
    go_ret2
    show Out _ b s d v ns w _ _
    rw [HX.out]
    exact ⟨v', ns', HRD.out, HKP.out, by show _ ≤ s.size - (pt n (tl s p)).2.1.length; omega, .inr ⟨rfl, rfl⟩⟩

end Go.Proofs.Ytcfbfdjmcabnkaa

namespace Go.Proofs.Ytcfbfdjmcabnkaa
open Go.RowKit Fw
open Go.Deep (BT)
set_option linter.unusedVariables false

theorem isAt_tl {s : ByteArray} {p c : Nat} (h : isAt s p c = true) : ∃ d : UInt8, tl s p = d :: tl s (p + 1) ∧ d.toNat = c := by
  have hl := isAt_lt h
  simp only [isAt, decide_eq_true_eq] at h
  exact ⟨s[p], tl_cons s p hl, h.2⟩

theorem isAt_tl_no {s : ByteArray} {p c : Nat} (h : isAt s p c = false) : tl s p = [] ∨ ∃ d r, tl s p = d :: r ∧ ¬ d.toNat = c := by
  by_cases hl : p < s.size
  · right
    refine ⟨s[p], tl s (p + 1), tl_cons s p hl, ?_⟩
    simp [isAt, hl] at h
    exact h
  · exact .inl (tl_nil s p (by omega))

section
variable {f : List UInt8 → Bool × List UInt8 × Fm} {wy a b z : Nat} {l : List UInt8} {s : ByteArray} {p p2 c : Nat}

theorem two_noleft (h : (f l).1 = false) : two f wy a b z l = (false, (f l).2.1, .nil) := by simp [two, h]

theorem two_nosign (h : (f l).1 = true) (hq : (f l).2.1 = tl s p) (ha : isAt s p a = false) (hb : isAt s p b = false) : two f wy a b z l = (false, tl s p, .nil) := by
  rw [two, if_pos h, hq]
  rcases isAt_tl_no ha with e | ⟨d, r, e, hd⟩
  · rw [e]; rfl
  · rcases isAt_tl_no hb with e2 | ⟨d2, r2, e2, hd2⟩
    · rw [e2]; rfl
    · rw [e] at e2
      injection e2 with e3 e4
      subst e3
      rw [e]
      dsimp only [mid]
      rw [if_neg (by rintro (h1 | h1) <;> contradiction)]

theorem two_noright (h : (f l).1 = true) (hq : (f l).2.1 = tl s p) (hc : isAt s p c = true) (hs : c = a ∨ c = b) (h2 : (f (tl s (p + 1))).1 = false) : two f wy a b z l = (false, (f (tl s (p + 1))).2.1, .nil) := by
  obtain ⟨d, e, hd⟩ := isAt_tl hc
  rw [two, if_pos h, hq, e]
  dsimp only [mid]
  rw [if_pos (by rw [hd]; exact hs), if_neg (by rw [h2]; simp)]

theorem two_noclose (h : (f l).1 = true) (hq : (f l).2.1 = tl s p) (hc : isAt s p c = true) (hs : c = a ∨ c = b) (h2 : (f (tl s (p + 1))).1 = true) (hq2 : (f (tl s (p + 1))).2.1 = tl s p2) (hz : isAt s p2 z = false) : two f wy a b z l = (false, tl s p2, .nil) := by
  obtain ⟨d, e, hd⟩ := isAt_tl hc
  rw [two, if_pos h, hq, e]
  dsimp only [mid]
  rw [if_pos (by rw [hd]; exact hs), if_pos h2, hq2]
  rcases isAt_tl_no hz with e2 | ⟨d2, r2, e2, hd2⟩
  · rw [e2]
  · rw [e2]
    dsimp only
    rw [if_neg hd2]

theorem two_yes (h : (f l).1 = true) (hq : (f l).2.1 = tl s p) (hc : isAt s p c = true) (hs : c = a ∨ c = b) (h2 : (f (tl s (p + 1))).1 = true) (hq2 : (f (tl s (p + 1))).2.1 = tl s p2) (hz : isAt s p2 z = true) : two f wy a b z l = (true, tl s (p2 + 1), .node c wy () (f l).2.2 (f (tl s (p + 1))).2.2) := by
  obtain ⟨d, e, hd⟩ := isAt_tl hc
  obtain ⟨d2, e2, hd2⟩ := isAt_tl hz
  rw [two, if_pos h, hq, e]
  dsimp only [mid]
  rw [if_pos (by rw [hd]; exact hs), if_pos h2, hq2, e2]
  dsimp only
  rw [if_pos hd2, hd]

end

/-- a box of five cells -/
def Bx (w : World) (H : Nat) (c0 c1 c2 c3 c4 : Value) : Prop := w.heap[H]? = some (.cells #[c0, c1, c2, c3, c4] 84)

section
variable {w w' : World} {H b : Nat} {c0 c1 c2 c3 c4 x : Value} {v v' : Value}
theorem Bx.set0 (h : Bx w H c0 c1 c2 c3 c4) (x : Value) : Bx (w.setCell ⟨H, 0, none⟩ x) H x c1 c2 c3 c4 := heap_setCell_same w H 0 _ 84 x h
theorem Bx.set2 (h : Bx w H c0 c1 c2 c3 c4) (x : Value) : Bx (w.setCell ⟨H, 2, none⟩ x) H c0 c1 x c3 c4 := heap_setCell_same w H 2 _ 84 x h
theorem Bx.set3 (h : Bx w H c0 c1 c2 c3 c4) (x : Value) : Bx (w.setCell ⟨H, 3, none⟩ x) H c0 c1 c2 x c4 := heap_setCell_same w H 3 _ 84 x h
theorem Bx.kept (h : Bx w H c0 c1 c2 c3 c4) (hk : Kp b v v' w w') (h1 : H < w.heap.size) (h2 : H ≠ b) (h3 : v.ownBlock ≠ some H) : Bx w' H c0 c1 c2 c3 c4 := (hk.keep H h1 h2 h3).trans h
theorem Bx.cells (h : Bx w H c0 c1 c2 c3 c4) : w.cell? ⟨H, 0, none⟩ = some c0 ∧ w.cell? ⟨H, 1, none⟩ = some c1 ∧ w.cell? ⟨H, 2, none⟩ = some c2 ∧ w.cell? ⟨H, 3, none⟩ = some c3 ∧ w.cell? ⟨H, 4, none⟩ = some c4 ∧ ∀ o, w.frozen? ⟨H, o, none⟩ = false := by
  refine ⟨?_, ?_, ?_, ?_, ?_, fun o => frozen_of_row _ _ _ _ _ h⟩ <;> rw [cell_of_row _ _ _ _ _ _ h] <;> rfl
end

theorem Rd.drew {w : World} {b p : Nat} {s : ByteArray} {v : Value} {ns : List Nd} (h : Rd w b s p v ns) : Rd w.drew b s p v ns := ⟨h.lt, h.c0, h.c1, h.c2, h.fz, h.own⟩
theorem Kp.drew {b : Nat} {v v' : Value} {w w' : World} (h : Kp b v v' w w') : Kp b v v' w w'.drew := ⟨h.os, h.tape, h.output, h.size, h.keep, h.at'⟩

/-- the nodes' row is never the box -/
theorem own_ne {v v' : Value} {w w' : World} {b H : Nat} (hk : Kp b v v' w w') (h1 : H < w.heap.size) (h2 : v.ownBlock ≠ some H) : v'.ownBlock ≠ some H := by
  rcases hk.at' with e | ⟨g, e, hg⟩
  · rw [e]; exact h2
  · rw [e]; intro e2; injection e2 with e2; omega

end Go.Proofs.Ytcfbfdjmcabnkaa

namespace Go.Proofs.Ytcfbfdjmcabnkaa
open Go.RowKit Fw
open Go.Deep (BT)
set_option linter.unusedVariables false

set_option maxRecDepth 100000 in
set_option maxHeartbeats 3200000 in
theorem readTwo_any (n : Nat) (hP : PartAt n) (wy a z zz b p d : Nat) (haa : isAtom a = false ∧ a ≠ 88) (hza : isAtom z = false ∧ z ≠ 88) (s : ByteArray) (v : Value) (ns : List Nd) (w : World) (ha : a < 256) (hz : z < 256) (hzz : zz < 256) (hs : s.size ≤ 30) (hp : p ≤ s.size) (hd : ns.length + (d + 1) ≤ p) (HR : Hid (Rd w b s p v ns)) (hn : s.size - p < n) :
    Calls Try.prog 52 #[.pointer (some ⟨b, 0, none⟩), .agg #[.int .u8 0, .int .u8 (wy : Int), .int .i64 0, .int .i64 0, .int .i64 0], .int .u8 (a : Int), .int .u8 (z : Int), .int .u8 (zz : Int)] w fun e w' => Out (two (pt n) wy a z zz (tl s p)) b s d v ns w e w' := by
  have hbH : b ≠ w.heap.size := by have := HR.out.lt; omega
  have hHb : w.heap.size ≠ b := Ne.symm hbH
  have HV0 : Hid (v.ownBlock ≠ some w.heap.size) := fun e => by have := (HR.out.own.lt _ e).2; omega
  go_enter Try.func52, Try.ntmps52
  go_wp2_with fail
  refine (hP b p (d + 1) s v ns _ hs hp hd (HR.out.alloc _) hn).mono ?_
  rintro e w1 ⟨v1, ns1, hrd, hkp, hlen, ⟨hx, i, rfl, hrep, hclo⟩ | ⟨hx, rfl⟩⟩
  · have HX1 : Hid ((pt n (tl s p)).1 = true) := hx
    have hbox : Bx w1 w.heap.size (.int .u8 0) (.int .u8 (wy : Int)) (.int .i64 0) (.int .i64 0) (.int .i64 0) := box_at HR.out hkp
    obtain ⟨hq1, hq2, hq3⟩ := rest_tl hp hx
    obtain ⟨p1, hp1⟩ : ∃ p1, p1 = s.size - (pt n (tl s p)).2.1.length := ⟨_, rfl⟩
    rw [← hp1] at hrd hlen hq1 hq2
    have hp1s : p1 ≤ s.size := by omega
    have HQ1 : Hid ((pt n (tl s p)).2.1 = tl s p1) := hq2
    obtain ⟨ms, hms⟩ : ∃ ms, ms = ns ++ ns1 := ⟨_, rfl⟩
    rw [← hms] at hrd hlen hrep hclo
    have HCLO : Hid (Clo ns → Clo ms) := hclo
    clear hclo
    have HMS : Hid (ms = ns ++ ns1) := hms
    have HRD1 : Hid (Rd w1 b s p1 v1 ms) := hrd
    have HREP1 : Hid (Rep ms (pt n (tl s p)).2.2 i) := hrep
    have HG1 : Hid (good (pt n (tl s p)).2.2) := (pt_sound n (tl s p) hx).2
    have HKP1 : Hid (Kp b v v1 w w1) := hkp.unbox
    have hz1 : w.heap.size < w1.heap.size := by have := hkp.size; simp at this; omega
    have HV1 : Hid (v1.ownBlock ≠ some w.heap.size) := own_ne hkp (by simp) HV0.out
    obtain ⟨k0, k1, k2, k3, k4, kz⟩ := hbox.cells
    have HBX1 : Hid (Bx w1 w.heap.size (.int .u8 0) (.int .u8 (wy : Int)) (.int .i64 0) (.int .i64 0) (.int .i64 0)) := hbox
    have hz0 := kz 0
    clear hx hq2 hq3 hp1 hms hrd hrep hkp hbox kz
    go_wp2_with fail
    refine (skip1_any b p1 a s v1 ms _ hs hp1s ha (HRD1.out.setOther _ hHb HV1.out)).mono ?_
    rintro e w2 (⟨hA, rfl, hrd2, hkp2⟩ | ⟨hA, rfl, hrd2, hkp2⟩)
    · have HA : Hid (isAt s p1 a = true) := hA
      have hbox2 := (HBX1.out.set0 (.int .u8 (a : Int))).kept hkp2 (by simpa using hz1) hHb HV1.out
      have HKP2 : Hid (Kp b v v1 w w2) := (HKP1.out.setNew _ (Nat.le_refl _)).trans hkp2
      have hz2 : w.heap.size < w2.heap.size := by have := hkp2.size; simp at this; omega
      have hltA := isAt_lt hA
      have HRDc : Hid (Rd w2 b s (p1 + 1) v1 ms) := hrd2
      obtain ⟨r0, r1, r2, r3, r4, rz⟩ := hbox2.cells
      have HBXc : Hid (Bx w2 w.heap.size (.int .u8 (a : Int)) (.int .u8 (wy : Int)) (.int .i64 0) (.int .i64 0) (.int .i64 0)) := hbox2
      clear hA hrd2 hkp2 hbox2 k0 k1 k2 k3 k4 hz0
      go_wp2_with fail
      refine (hP b (p1 + 1) (d + 1) s v1 ms _ hs (by omega) (by omega) HRDc.out (by omega)).mono ?_
      rintro e w4 ⟨v4, ns4, hrd4, hkp4, hlen4, ⟨hx4, j, rfl, hrep4, hclo4⟩ | ⟨hx4, rfl⟩⟩
      · obtain ⟨hq41, hq42, hq43⟩ := rest_tl (p := p1 + 1) (by omega) hx4
        have HX4 : Hid ((pt n (tl s (p1 + 1))).1 = true) := hx4
        obtain ⟨p2, hp2⟩ : ∃ p2, p2 = s.size - (pt n (tl s (p1 + 1))).2.1.length := ⟨_, rfl⟩
        rw [← hp2] at hrd4 hlen4 hq41 hq42
        have hp2s : p2 ≤ s.size := by omega
        have HQ4 : Hid ((pt n (tl s (p1 + 1))).2.1 = tl s p2) := hq42
        obtain ⟨mt, hmt⟩ : ∃ mt, mt = ms ++ ns4 := ⟨_, rfl⟩
        rw [← hmt] at hrd4 hlen4 hrep4 hclo4
        have HCLO4 : Hid (Clo ms → Clo mt) := hclo4
        clear hclo4
        have HMT : Hid (mt = ms ++ ns4) := hmt
        have HRD4 : Hid (Rd w4 b s p2 v4 mt) := hrd4
        have HREP4 : Hid (Rep mt (pt n (tl s (p1 + 1))).2.2 j) := hrep4
        have HREP3 : Hid (Rep mt (pt n (tl s p)).2.2 i) := by rw [hmt]; exact HREP1.out.more _
        have HG4 : Hid (good (pt n (tl s (p1 + 1))).2.2) := (pt_sound n (tl s (p1 + 1)) hx4).2
        have HKP4 : Hid (Kp b v v4 w w4) := HKP2.out.trans hkp4
        have hz4 : w.heap.size < w4.heap.size := by have := hkp4.size; omega
        have HV4 : Hid (v4.ownBlock ≠ some w.heap.size) := own_ne hkp4 hz2 HV1.out
        have hbox4 := HBXc.out.kept hkp4 hz2 hHb HV1.out
        have HBX4 : Hid (Bx w4 w.heap.size (.int .u8 (a : Int)) (.int .u8 (wy : Int)) (.int .i64 0) (.int .i64 0) (.int .i64 0)) := hbox4
        clear hx4 hq42 hq43 hp2 hmt hrd4 hrep4 hkp4 hbox4 r0 r1 r2 r3 r4 rz
        go_wp2_with fail
        refine (skip1_any b p2 zz s v4 mt _ hs hp2s hzz HRD4.out).mono ?_
        rintro e w5 (⟨hC, rfl, hrd5, hkp5⟩ | ⟨hC, rfl, hrd5, hkp5⟩)
        · have HT : Hid (two (pt n) wy a z zz (tl s p) = (true, tl s (p2 + 1), .node a wy () (pt n (tl s p)).2.2 (pt n (tl s (p1 + 1))).2.2)) := two_yes HX1.out HQ1.out HA.out (.inl rfl) HX4.out HQ4.out hC
          have hltC := isAt_lt hC
          have hbox5 := HBX4.out.kept hkp5 hz4 hHb HV4.out
          have HKP5 : Hid (Kp b v v4 w w5) := HKP4.out.trans hkp5
          have hle1 : nst (pt n (tl s p)).2.2 ≤ 30 := by
            have e1 := congrArg List.length (pt_sound n (tl s p) HX1.out).1
            have e2 := nst_le _ HG1.out
            rw [List.length_append, tl_length] at e1
            omega
          have hle2 : nst (pt n (tl s (p1 + 1))).2.2 ≤ 30 := by
            have e1 := congrArg List.length (pt_sound n (tl s (p1 + 1)) HX4.out).1
            have e2 := nst_le _ HG4.out
            rw [List.length_append, tl_length] at e1
            omega
          obtain ⟨t1, ht1⟩ : ∃ t1, t1 = (pt n (tl s p)).2.2 := ⟨_, rfl⟩
          obtain ⟨t2, ht2⟩ : ∃ t2, t2 = (pt n (tl s (p1 + 1))).2.2 := ⟨_, rfl⟩
          rw [← ht1] at hle1 HG1 HREP3 HT
          rw [← ht2] at hle2 HG4 HREP4 HT
          obtain ⟨g, cap, hv, hi, hbg, hgl, hcell1⟩ := hrd5.nest HREP3.out HG1.out
          obtain ⟨g2, cap2, hv2, hj, _, _, hcell2⟩ := hrd5.nest HREP4.out HG4.out
          rw [hv] at hv2
          injection hv2 with hv3 _ _
          injection hv3 with hv4
          injection hv4 with hv5 _ _
          subst hv5
          have hgH : g ≠ w.heap.size := by intro e; apply HV4.out; rw [hv, e]; rfl
          have hHg : w.heap.size ≠ g := Ne.symm hgH
          have c2 := hrd5.c2
          rw [hv] at c2
          have HRD5 : Hid (Rd w5 b s (p2 + 1) v4 mt) := hrd5
          have HVV : Hid (v4 = .slice (some ⟨g, 0, none⟩) mt.length cap) := hv
          obtain ⟨u0, u1, u2, u3, u4, uz⟩ := hbox5.cells
          have uz2 := uz 2
          have uz3 := uz 3
          have uz4 := uz 4
          have hi0 : (0 : Int) ≤ (i : Int) := by omega
          have hj0 : (0 : Int) ≤ (j : Int) := by omega
          have hi2 : (i : Int) < (mt.length : Int) := by omega
          have hj2 : (j : Int) < (mt.length : Int) := by omega
          have hml : mt.length ≤ 1000 := by omega
          clear hC hrd5 hkp5 hbox5 hv uz ht1 ht2
          go_wp2_with fail
          go_region_held3 (fun w' => w'.cell? ⟨b, 2, none⟩ = some (.slice (some ⟨g, 0, none⟩) mt.length cap) ∧ w'.cell? ⟨g, i * 5 + 4, none⟩ = some (.int .i64 ((nst t1 : Nat) : Int)) ∧ w'.cell? ⟨g, j * 5 + 4, none⟩ = some (.int .i64 ((nst t2 : Nat) : Int))) (go_keep)
            (first | (go_at_call 74; refine (greater_any _ _ _).mono ?_; rintro e w' ⟨rfl, rfl⟩))
          rename_i hHeld
          clear hHeld
          go_wp2_with fail
          refine (add_any b (p2 + 1) a wy i j (max (nst t1) (nst t2)) s v4 mt _ hml (by omega) (((HRD5.out.setOther _ hHb HV4.out).setOther _ hHb HV4.out).setOther _ hHb HV4.out).drew).mono ?_
          rintro e w6 ⟨rfl, v6, hrd6, hkp6⟩
          have HRD6 : Hid (Rd w6 b s (p2 + 1) v6 (mt ++ [(a, wy, i, j, max (nst t1) (nst t2) + if wy = 0 then 0 else 1)])) := hrd6
          have HKP6 : Hid (Kp b v v6 w w6) := ((((HKP5.out.setNew _ (Nat.le_refl _)).setNew _ (Nat.le_refl _)).setNew _ (Nat.le_refl _)).drew).trans hkp6
          clear hrd6 hkp6
          go_wp2_with fail
          go_ret2
          show Out _ b s d v ns w _ _
          rw [HT.out]
          refine ⟨v6, ns1 ++ ns4 ++ [(a, wy, i, j, max (nst t1) (nst t2) + if wy = 0 then 0 else 1)], ?_, HKP6.out, ?_, .inl ⟨rfl, mt.length, rfl, ?_⟩⟩
          · rw [← List.append_assoc, ← List.append_assoc, ← HMS.out, ← HMT.out]; simp only [tl_length]; rw [show s.size - (s.size - (p2 + 1)) = p2 + 1 from by omega]; exact HRD6.out
          · rw [← List.append_assoc, ← List.append_assoc, ← HMS.out, ← HMT.out]; simp only [tl_length, List.length_append, List.length_cons, List.length_nil]; omega
          · rw [← List.append_assoc, ← List.append_assoc, ← HMS.out, ← HMT.out]; exact ⟨HREP3.out.new HREP4.out rfl, fun h => (HCLO4.out (HCLO.out h)).snoc ⟨.inr ⟨by show i < _; omega, by show j < _; omega⟩, fun h2 => (by rw [show isAtom a = false from haa.1] at h2; cases h2), fun h2 => absurd h2 haa.2⟩⟩
        · have HT : Hid (two (pt n) wy a z zz (tl s p) = (false, tl s p2, .nil)) := two_noclose HX1.out HQ1.out HA.out (.inl rfl) HX4.out HQ4.out hC
          have HRD5 : Hid (Rd w5 b s p2 v4 mt) := hrd5
          have HKP5 : Hid (Kp b v v4 w w5) := HKP4.out.trans hkp5
          clear hC hrd5 hkp5
          go_wp2_with fail
          go_ret2
          show Out _ b s d v ns w _ _
          rw [HT.out]
          refine ⟨v4, ns1 ++ ns4, ?_, HKP5.out, ?_, .inr ⟨rfl, rfl⟩⟩
          · rw [← List.append_assoc, ← HMS.out, ← HMT.out]; simp only [tl_length]; rw [show s.size - (s.size - p2) = p2 from by omega]; exact HRD5.out
          · rw [← List.append_assoc, ← HMS.out, ← HMT.out]; simp only [tl_length]; omega
      · have HT : Hid (two (pt n) wy a z zz (tl s p) = (false, (pt n (tl s (p1 + 1))).2.1, .nil)) := two_noright HX1.out HQ1.out HA.out (.inl rfl) hx4
        have HRD4 : Hid (Rd w4 b s (s.size - (pt n (tl s (p1 + 1))).2.1.length) v4 (ms ++ ns4)) := hrd4
        have HKP4 : Hid (Kp b v v4 w w4) := HKP2.out.trans hkp4
        clear hx4 hrd4 hkp4
        go_wp2_with fail
        go_ret2
        show Out _ b s d v ns w _ _
        rw [HT.out]
        refine ⟨v4, ns1 ++ ns4, ?_, HKP4.out, ?_, .inr ⟨rfl, rfl⟩⟩
        · rw [← List.append_assoc, ← HMS.out]; exact HRD4.out
        · rw [← List.append_assoc, ← HMS.out]; show _ ≤ s.size - (pt n (tl s (p1 + 1))).2.1.length; omega
    · have HA : Hid (isAt s p1 a = false) := hA
      have hbox2 := (HBX1.out.set0 (.int .u8 (a : Int))).kept hkp2 (by simpa using hz1) hHb HV1.out
      have HKP2 : Hid (Kp b v v1 w w2) := (HKP1.out.setNew _ (Nat.le_refl _)).trans hkp2
      have hz2 : w.heap.size < w2.heap.size := by have := hkp2.size; simp at this; omega
      have HRD2 : Hid (Rd w2 b s p1 v1 ms) := hrd2
      have HBX2 : Hid (Bx w2 w.heap.size (.int .u8 (a : Int)) (.int .u8 (wy : Int)) (.int .i64 0) (.int .i64 0) (.int .i64 0)) := hbox2
      obtain ⟨m0, m1, m2, m3, m4, mz⟩ := hbox2.cells
      have mz0 := mz 0
      clear hA hrd2 hkp2 hbox2 mz k0 k1 k2 k3 k4 hz0
      go_wp2_with fail
      refine (skip1_any b p1 z s v1 ms _ hs hp1s hz (HRD2.out.setOther _ hHb HV1.out)).mono ?_
      rintro e w3 (⟨hB, rfl, hrd3, hkp3⟩ | ⟨hB, rfl, hrd3, hkp3⟩)
      · have HB : Hid (isAt s p1 z = true) := hB
        have hbox3 := (HBX2.out.set0 (.int .u8 (z : Int))).kept hkp3 (by simpa using hz2) hHb HV1.out
        have HKP3 : Hid (Kp b v v1 w w3) := (HKP2.out.setNew _ (Nat.le_refl _)).trans hkp3
        have hz3 : w.heap.size < w3.heap.size := by have := hkp3.size; simp at this; omega
        have hltB := isAt_lt hB
        have HRDc : Hid (Rd w3 b s (p1 + 1) v1 ms) := hrd3
        obtain ⟨r0, r1, r2, r3, r4, rz⟩ := hbox3.cells
        have HBXc : Hid (Bx w3 w.heap.size (.int .u8 (z : Int)) (.int .u8 (wy : Int)) (.int .i64 0) (.int .i64 0) (.int .i64 0)) := hbox3
        clear hB hrd3 hkp3 hbox3 m0 m1 m2 m3 m4 mz0
        go_wp2_with fail
        refine (hP b (p1 + 1) (d + 1) s v1 ms _ hs (by omega) (by omega) HRDc.out (by omega)).mono ?_
        rintro e w4 ⟨v4, ns4, hrd4, hkp4, hlen4, ⟨hx4, j, rfl, hrep4, hclo4⟩ | ⟨hx4, rfl⟩⟩
        · obtain ⟨hq41, hq42, hq43⟩ := rest_tl (p := p1 + 1) (by omega) hx4
          have HX4 : Hid ((pt n (tl s (p1 + 1))).1 = true) := hx4
          obtain ⟨p2, hp2⟩ : ∃ p2, p2 = s.size - (pt n (tl s (p1 + 1))).2.1.length := ⟨_, rfl⟩
          rw [← hp2] at hrd4 hlen4 hq41 hq42
          have hp2s : p2 ≤ s.size := by omega
          have HQ4 : Hid ((pt n (tl s (p1 + 1))).2.1 = tl s p2) := hq42
          obtain ⟨mt, hmt⟩ : ∃ mt, mt = ms ++ ns4 := ⟨_, rfl⟩
          rw [← hmt] at hrd4 hlen4 hrep4 hclo4
          have HCLO4 : Hid (Clo ms → Clo mt) := hclo4
          clear hclo4
          have HMT : Hid (mt = ms ++ ns4) := hmt
          have HRD4 : Hid (Rd w4 b s p2 v4 mt) := hrd4
          have HREP4 : Hid (Rep mt (pt n (tl s (p1 + 1))).2.2 j) := hrep4
          have HREP3 : Hid (Rep mt (pt n (tl s p)).2.2 i) := by rw [hmt]; exact HREP1.out.more _
          have HG4 : Hid (good (pt n (tl s (p1 + 1))).2.2) := (pt_sound n (tl s (p1 + 1)) hx4).2
          have HKP4 : Hid (Kp b v v4 w w4) := HKP3.out.trans hkp4
          have hz4 : w.heap.size < w4.heap.size := by have := hkp4.size; omega
          have HV4 : Hid (v4.ownBlock ≠ some w.heap.size) := own_ne hkp4 hz3 HV1.out
          have hbox4 := HBXc.out.kept hkp4 hz3 hHb HV1.out
          have HBX4 : Hid (Bx w4 w.heap.size (.int .u8 (z : Int)) (.int .u8 (wy : Int)) (.int .i64 0) (.int .i64 0) (.int .i64 0)) := hbox4
          clear hx4 hq42 hq43 hp2 hmt hrd4 hrep4 hkp4 hbox4 r0 r1 r2 r3 r4 rz
          go_wp2_with fail
          refine (skip1_any b p2 zz s v4 mt _ hs hp2s hzz HRD4.out).mono ?_
          rintro e w5 (⟨hC, rfl, hrd5, hkp5⟩ | ⟨hC, rfl, hrd5, hkp5⟩)
          · have HT : Hid (two (pt n) wy a z zz (tl s p) = (true, tl s (p2 + 1), .node z wy () (pt n (tl s p)).2.2 (pt n (tl s (p1 + 1))).2.2)) := two_yes HX1.out HQ1.out HB.out (.inr rfl) HX4.out HQ4.out hC
            have hltC := isAt_lt hC
            have hbox5 := HBX4.out.kept hkp5 hz4 hHb HV4.out
            have HKP5 : Hid (Kp b v v4 w w5) := HKP4.out.trans hkp5
            have hle1 : nst (pt n (tl s p)).2.2 ≤ 30 := by
              have e1 := congrArg List.length (pt_sound n (tl s p) HX1.out).1
              have e2 := nst_le _ HG1.out
              rw [List.length_append, tl_length] at e1
              omega
            have hle2 : nst (pt n (tl s (p1 + 1))).2.2 ≤ 30 := by
              have e1 := congrArg List.length (pt_sound n (tl s (p1 + 1)) HX4.out).1
              have e2 := nst_le _ HG4.out
              rw [List.length_append, tl_length] at e1
              omega
            obtain ⟨t1, ht1⟩ : ∃ t1, t1 = (pt n (tl s p)).2.2 := ⟨_, rfl⟩
            obtain ⟨t2, ht2⟩ : ∃ t2, t2 = (pt n (tl s (p1 + 1))).2.2 := ⟨_, rfl⟩
            rw [← ht1] at hle1 HG1 HREP3 HT
            rw [← ht2] at hle2 HG4 HREP4 HT
            obtain ⟨g, cap, hv, hi, hbg, hgl, hcell1⟩ := hrd5.nest HREP3.out HG1.out
            obtain ⟨g2, cap2, hv2, hj, _, _, hcell2⟩ := hrd5.nest HREP4.out HG4.out
            rw [hv] at hv2
            injection hv2 with hv3 _ _
            injection hv3 with hv4
            injection hv4 with hv5 _ _
            subst hv5
            have hgH : g ≠ w.heap.size := by intro e; apply HV4.out; rw [hv, e]; rfl
            have hHg : w.heap.size ≠ g := Ne.symm hgH
            have c2 := hrd5.c2
            rw [hv] at c2
            have HRD5 : Hid (Rd w5 b s (p2 + 1) v4 mt) := hrd5
            have HVV : Hid (v4 = .slice (some ⟨g, 0, none⟩) mt.length cap) := hv
            obtain ⟨u0, u1, u2, u3, u4, uz⟩ := hbox5.cells
            have uz2 := uz 2
            have uz3 := uz 3
            have uz4 := uz 4
            have hi0 : (0 : Int) ≤ (i : Int) := by omega
            have hj0 : (0 : Int) ≤ (j : Int) := by omega
            have hi2 : (i : Int) < (mt.length : Int) := by omega
            have hj2 : (j : Int) < (mt.length : Int) := by omega
            have hml : mt.length ≤ 1000 := by omega
            clear hC hrd5 hkp5 hbox5 hv uz ht1 ht2
            go_wp2_with fail
            go_region_held3 (fun w' => w'.cell? ⟨b, 2, none⟩ = some (.slice (some ⟨g, 0, none⟩) mt.length cap) ∧ w'.cell? ⟨g, i * 5 + 4, none⟩ = some (.int .i64 ((nst t1 : Nat) : Int)) ∧ w'.cell? ⟨g, j * 5 + 4, none⟩ = some (.int .i64 ((nst t2 : Nat) : Int))) (go_keep)
              (first | (go_at_call 74; refine (greater_any _ _ _).mono ?_; rintro e w' ⟨rfl, rfl⟩))
            rename_i hHeld
            clear hHeld
            go_wp2_with fail
            refine (add_any b (p2 + 1) z wy i j (max (nst t1) (nst t2)) s v4 mt _ hml (by omega) (((HRD5.out.setOther _ hHb HV4.out).setOther _ hHb HV4.out).setOther _ hHb HV4.out).drew).mono ?_
            rintro e w6 ⟨rfl, v6, hrd6, hkp6⟩
            have HRD6 : Hid (Rd w6 b s (p2 + 1) v6 (mt ++ [(z, wy, i, j, max (nst t1) (nst t2) + if wy = 0 then 0 else 1)])) := hrd6
            have HKP6 : Hid (Kp b v v6 w w6) := ((((HKP5.out.setNew _ (Nat.le_refl _)).setNew _ (Nat.le_refl _)).setNew _ (Nat.le_refl _)).drew).trans hkp6
            clear hrd6 hkp6
            go_wp2_with fail
            go_ret2
            show Out _ b s d v ns w _ _
            rw [HT.out]
            refine ⟨v6, ns1 ++ ns4 ++ [(z, wy, i, j, max (nst t1) (nst t2) + if wy = 0 then 0 else 1)], ?_, HKP6.out, ?_, .inl ⟨rfl, mt.length, rfl, ?_⟩⟩
            · rw [← List.append_assoc, ← List.append_assoc, ← HMS.out, ← HMT.out]; simp only [tl_length]; rw [show s.size - (s.size - (p2 + 1)) = p2 + 1 from by omega]; exact HRD6.out
            · rw [← List.append_assoc, ← List.append_assoc, ← HMS.out, ← HMT.out]; simp only [tl_length, List.length_append, List.length_cons, List.length_nil]; omega
            · rw [← List.append_assoc, ← List.append_assoc, ← HMS.out, ← HMT.out]; exact ⟨HREP3.out.new HREP4.out rfl, fun h => (HCLO4.out (HCLO.out h)).snoc ⟨.inr ⟨by show i < _; omega, by show j < _; omega⟩, fun h2 => (by rw [show isAtom z = false from hza.1] at h2; cases h2), fun h2 => absurd h2 hza.2⟩⟩
          · have HT : Hid (two (pt n) wy a z zz (tl s p) = (false, tl s p2, .nil)) := two_noclose HX1.out HQ1.out HB.out (.inr rfl) HX4.out HQ4.out hC
            have HRD5 : Hid (Rd w5 b s p2 v4 mt) := hrd5
            have HKP5 : Hid (Kp b v v4 w w5) := HKP4.out.trans hkp5
            clear hC hrd5 hkp5
            go_wp2_with fail
            go_ret2
            show Out _ b s d v ns w _ _
            rw [HT.out]
            refine ⟨v4, ns1 ++ ns4, ?_, HKP5.out, ?_, .inr ⟨rfl, rfl⟩⟩
            · rw [← List.append_assoc, ← HMS.out, ← HMT.out]; simp only [tl_length]; rw [show s.size - (s.size - p2) = p2 from by omega]; exact HRD5.out
            · rw [← List.append_assoc, ← HMS.out, ← HMT.out]; simp only [tl_length]; omega
        · have HT : Hid (two (pt n) wy a z zz (tl s p) = (false, (pt n (tl s (p1 + 1))).2.1, .nil)) := two_noright HX1.out HQ1.out HB.out (.inr rfl) hx4
          have HRD4 : Hid (Rd w4 b s (s.size - (pt n (tl s (p1 + 1))).2.1.length) v4 (ms ++ ns4)) := hrd4
          have HKP4 : Hid (Kp b v v4 w w4) := HKP3.out.trans hkp4
          clear hx4 hrd4 hkp4
          go_wp2_with fail
          go_ret2
          show Out _ b s d v ns w _ _
          rw [HT.out]
          refine ⟨v4, ns1 ++ ns4, ?_, HKP4.out, ?_, .inr ⟨rfl, rfl⟩⟩
          · rw [← List.append_assoc, ← HMS.out]; exact HRD4.out
          · rw [← List.append_assoc, ← HMS.out]; show _ ≤ s.size - (pt n (tl s (p1 + 1))).2.1.length; omega
      · have HT : Hid (two (pt n) wy a z zz (tl s p) = (false, tl s p1, .nil)) := two_nosign HX1.out HQ1.out HA.out hB
        have HRD3 : Hid (Rd w3 b s p1 v1 ms) := hrd3
        have HKP3 : Hid (Kp b v v1 w w3) := (HKP2.out.setNew _ (Nat.le_refl _)).trans hkp3
        clear hB hrd3 hkp3
        go_wp2_with fail
        go_ret2
        show Out _ b s d v ns w _ _
        rw [HT.out]
        refine ⟨v1, ns1, ?_, HKP3.out, ?_, .inr ⟨rfl, rfl⟩⟩
        · rw [← HMS.out]; simp only [tl_length]; rw [show s.size - (s.size - p1) = p1 from by omega]; exact HRD3.out
        · rw [← HMS.out]; simp only [tl_length]; omega
  · have HT : Hid (two (pt n) wy a z zz (tl s p) = (false, (pt n (tl s p)).2.1, .nil)) := two_noleft hx
    have HRD : Hid (Rd w1 b s (s.size - (pt n (tl s p)).2.1.length) v1 (ns ++ ns1)) := hrd
    have HKP : Hid (Kp b v v1 w w1) := hkp.unbox
    clear hx hrd hkp
    go_wp2_with fail
    go_ret2
    show Out _ b s d v ns w _ _
    rw [HT.out]
    exact ⟨v1, ns1, HRD.out, HKP.out, by show _ ≤ s.size - (pt n (tl s p)).2.1.length; omega, .inr ⟨rfl, rfl⟩⟩

end Go.Proofs.Ytcfbfdjmcabnkaa

namespace Go.Proofs.Ytcfbfdjmcabnkaa
open Go.RowKit Fw
open Go.Deep (BT)
set_option linter.unusedVariables false

theorem Out.pair {x : Bool × List UInt8 × Fm} {b d : Nat} {s : ByteArray} {v : Value} {ns : List Nd} {w w' : World} {e : Ending} (h : Out x b s d v ns w e w') : ∃ (i : Int) (ok : Bool), e = .returned (.tuple #[.int .i64 i, .bool ok]) := by
  obtain ⟨v', ns', _, _, _, ⟨_, i, h, _⟩ | ⟨_, h⟩⟩ := h
  · exact ⟨_, _, h⟩
  · exact ⟨_, _, h⟩

theorem Out.pre {x : Bool × List UInt8 × Fm} {b d : Nat} {s : ByteArray} {v : Value} {ns : List Nd} {w W w' : World} {e : Ending} (hk : Kp b v v w W) (h : Out x b s d v ns W e w') : Out x b s d v ns w e w' := by
  obtain ⟨v', ns', h1, h2, h3⟩ := h
  exact ⟨v', ns', h1, hk.trans h2, h3⟩

theorem Out.fail {l : List UInt8} {b d p : Nat} {s : ByteArray} {v : Value} {ns : List Nd} {w w' : World} (hl : s.size - l.length = p) (hr : Rd w' b s p v ns) (hk : Kp b v v w w') (hd : ns.length + d ≤ p) :
    Out (false, l, .nil) b s d v ns w (.returned (.tuple #[.int .i64 0, .bool false])) w' := by
  refine ⟨v, [], ?_, hk, ?_, .inr ⟨rfl, rfl⟩⟩
  · rw [List.append_nil]; show Rd w' b s (s.size - l.length) v ns; rw [hl]; exact hr
  · rw [List.append_nil]; show _ ≤ s.size - l.length; rw [hl]; exact hd

theorem skip_88 (b p : Nat) (s : ByteArray) (v : Value) (ns : List Nd) (w : World) (hs : s.size ≤ 30) (hp : p ≤ s.size) (HR : Hid (Rd w b s p v ns)) :
    Calls Try.prog 73 #[.pointer (some ⟨b, 0, none⟩), .int .u8 88] w fun e w' =>
      (isAt s p 88 = true ∧ e = .returned (.bool true) ∧ Rd w' b s (p + 1) v ns ∧ Kp b v v w w') ∨
      (isAt s p 88 = false ∧ e = .returned (.bool false) ∧ Rd w' b s p v ns ∧ Kp b v v w w') := skip1_any b p 88 s v ns w hs hp (by omega) HR
theorem skip_91 (b p : Nat) (s : ByteArray) (v : Value) (ns : List Nd) (w : World) (hs : s.size ≤ 30) (hp : p ≤ s.size) (HR : Hid (Rd w b s p v ns)) :
    Calls Try.prog 73 #[.pointer (some ⟨b, 0, none⟩), .int .u8 91] w fun e w' =>
      (isAt s p 91 = true ∧ e = .returned (.bool true) ∧ Rd w' b s (p + 1) v ns ∧ Kp b v v w w') ∨
      (isAt s p 91 = false ∧ e = .returned (.bool false) ∧ Rd w' b s p v ns ∧ Kp b v v w w') := skip1_any b p 91 s v ns w hs hp (by omega) HR

theorem readOne_88 (n : Nat) (hP : PartAt n) (wy b p d : Nat) (s : ByteArray) (v : Value) (ns : List Nd) (w : World) (hs : s.size ≤ 30) (hp : p ≤ s.size) (hd : ns.length + (d + 1) ≤ p) (HR : Hid (Rd w b s p v ns)) (hn : s.size - p < n) :
    Calls Try.prog 51 #[.pointer (some ⟨b, 0, none⟩), .agg #[.int .u8 88, .int .u8 (wy : Int), .int .i64 0, .int .i64 0, .int .i64 0]] w fun e w' => Out (one 88 wy (pt n (tl s p))) b s d v ns w e w' :=
  readOne_any n hP 88 wy b p d rfl s v ns w hs hp hd HR hn
theorem readOne_33 (n : Nat) (hP : PartAt n) (b p d : Nat) (s : ByteArray) (v : Value) (ns : List Nd) (w : World) (hs : s.size ≤ 30) (hp : p ≤ s.size) (hd : ns.length + (d + 1) ≤ p) (HR : Hid (Rd w b s p v ns)) (hn : s.size - p < n) :
    Calls Try.prog 51 #[.pointer (some ⟨b, 0, none⟩), .agg #[.int .u8 33, .int .u8 0, .int .i64 0, .int .i64 0, .int .i64 0]] w fun e w' => Out (one 33 0 (pt n (tl s p))) b s d v ns w e w' :=
  readOne_any n hP 33 0 b p d rfl s v ns w hs hp hd HR hn
theorem readTwo_ur (n : Nat) (hP : PartAt n) (wy b p d : Nat) (s : ByteArray) (v : Value) (ns : List Nd) (w : World) (hs : s.size ≤ 30) (hp : p ≤ s.size) (hd : ns.length + (d + 1) ≤ p) (HR : Hid (Rd w b s p v ns)) (hn : s.size - p < n) :
    Calls Try.prog 52 #[.pointer (some ⟨b, 0, none⟩), .agg #[.int .u8 0, .int .u8 (wy : Int), .int .i64 0, .int .i64 0, .int .i64 0], .int .u8 85, .int .u8 82, .int .u8 93] w fun e w' => Out (two (pt n) wy 85 82 93 (tl s p)) b s d v ns w e w' :=
  readTwo_any n hP wy 85 82 93 b p d ⟨rfl, by omega⟩ ⟨rfl, by omega⟩ s v ns w (by omega) (by omega) (by omega) hs hp hd HR hn
theorem readTwo_bin (n : Nat) (hP : PartAt n) (b p d : Nat) (s : ByteArray) (v : Value) (ns : List Nd) (w : World) (hs : s.size ≤ 30) (hp : p ≤ s.size) (hd : ns.length + (d + 1) ≤ p) (HR : Hid (Rd w b s p v ns)) (hn : s.size - p < n) :
    Calls Try.prog 52 #[.pointer (some ⟨b, 0, none⟩), .agg #[.int .u8 0, .int .u8 0, .int .i64 0, .int .i64 0, .int .i64 0], .int .u8 38, .int .u8 43, .int .u8 41] w fun e w' => Out (two (pt n) 0 38 43 41 (tl s p)) b s d v ns w e w' :=
  readTwo_any n hP 0 38 43 41 b p d ⟨rfl, by omega⟩ ⟨rfl, by omega⟩ s v ns w (by omega) (by omega) (by omega) hs hp hd HR hn
theorem add_atom (b p sg : Nat) (s : ByteArray) (v : Value) (ns : List Nd) (w : World) (hn : ns.length ≤ 1000) (HR : Hid (Rd w b s p v ns)) :
    Calls Try.prog 50 #[.pointer (some ⟨b, 0, none⟩), .agg #[.int .u8 (sg : Int), .int .u8 0, .int .i64 0, .int .i64 0, .int .i64 0]] w fun e w' =>
      e = .returned (.int .i64 (ns.length : Int)) ∧ ∃ v', Rd w' b s p v' (ns ++ [(sg, 0, 0, 0, 0)]) ∧ Kp b v v' w w' :=
  add_any b p sg 0 0 0 0 s v ns w hn (by omega) HR

section
variable {f : List UInt8 → Bool × List UInt8 × Fm} {wy p n : Nat} {s : ByteArray}
theorem ways_x (h : isAt s p 88 = true) : Fw.ways f wy (tl s p) = one 88 wy (f (tl s (p + 1))) := by
  obtain ⟨d, e, hd⟩ := isAt_tl h
  rw [e]
  dsimp only [Fw.ways]
  rw [if_pos hd]
theorem ways_br (h : isAt s p 91 = true) : Fw.ways f wy (tl s p) = two f wy 85 82 93 (tl s (p + 1)) := by
  obtain ⟨d, e, hd⟩ := isAt_tl h
  rw [e]
  dsimp only [Fw.ways]
  rw [if_neg (by omega), if_pos hd]
theorem ways_no (h : isAt s p 88 = false) (h2 : isAt s p 91 = false) : Fw.ways f wy (tl s p) = (false, tl s p, .nil) := by
  rcases isAt_tl_no h with e | ⟨d, r, e, hd⟩
  · rw [e]; rfl
  · rcases isAt_tl_no h2 with e2 | ⟨d2, r2, e2, hd2⟩
    · rw [e2]; rfl
    · rw [e] at e2
      injection e2 with e3 e4
      subst e3
      rw [e]
      dsimp only [Fw.ways]
      rw [if_neg hd, if_neg hd2]

theorem pt_end (h : ¬ p < s.size) : pt (n + 1) (tl s p) = (false, tl s p, .nil) := by rw [tl_nil s p (by omega)]; rfl
theorem pt_atom (h : p < s.size) (ha : isAtom s[p].toNat = true) : pt (n + 1) (tl s p) = (true, tl s (p + 1), .node s[p].toNat 0 () .nil .nil) := by
  rw [tl_cons s p h, pt, if_pos ha]
theorem pt_not (h : p < s.size) (ha : s[p].toNat = 33) : pt (n + 1) (tl s p) = one 33 0 (pt n (tl s (p + 1))) := by
  rw [tl_cons s p h, pt, if_neg (by rw [ha]; simp [isAtom]), if_pos ha]
theorem pt_open (h : p < s.size) (ha : s[p].toNat = 40) : pt (n + 1) (tl s p) = two (pt n) 0 38 43 41 (tl s (p + 1)) := by
  rw [tl_cons s p h, pt, if_neg (by rw [ha]; simp [isAtom]), if_neg (by omega), if_pos ha]
theorem pt_way (h : p < s.size) (ha : s[p].toNat = 69 ∨ s[p].toNat = 65) : pt (n + 1) (tl s p) = Fw.ways (pt n) s[p].toNat (tl s (p + 1)) := by
  rw [tl_cons s p h, pt, if_neg (by rcases ha with ha | ha <;> rw [ha] <;> simp [isAtom]), if_neg (by omega), if_neg (by omega), if_pos ha]
theorem pt_none (h : p < s.size) (h1 : ¬ isAtom s[p].toNat = true) (h2 : ¬ s[p].toNat = 33) (h3 : ¬ s[p].toNat = 40) (h4 : ¬ (s[p].toNat = 69 ∨ s[p].toNat = 65)) : pt (n + 1) (tl s p) = (false, tl s p, .nil) := by
  rw [tl_cons s p h, pt, if_neg h1, if_neg h2, if_neg h3, if_neg h4]
end

set_option maxRecDepth 100000 in
set_option maxHeartbeats 3200000 in
theorem readWays_any (n : Nat) (hP : PartAt n) (wy b p d : Nat) (s : ByteArray) (v : Value) (ns : List Nd) (w : World) (hs : s.size ≤ 30) (hp : p ≤ s.size) (hd : ns.length + (d + 1) ≤ p) (HR : Hid (Rd w b s p v ns)) (hn : s.size - p < n) :
    Calls Try.prog 53 #[.pointer (some ⟨b, 0, none⟩), .int .u8 (wy : Int)] w fun e w' => Out (Fw.ways (pt n) wy (tl s p)) b s d v ns w e w' := by
  go_enter Try.func53, Try.ntmps53
  go_wp2_with fail
  refine (skip_88 b p s v ns _ hs hp HR).mono ?_
  rintro e w1 (⟨hA, rfl, hrd, hkp⟩ | ⟨hA, rfl, hrd, hkp⟩)
  · have hlt := isAt_lt hA
    have HW : Hid (Fw.ways (pt n) wy (tl s p) = one 88 wy (pt n (tl s (p + 1)))) := ways_x hA
    have HRD : Hid (Rd w1 b s (p + 1) v ns) := hrd
    have HKP : Hid (Kp b v v w w1) := hkp
    clear hA hrd hkp
    go_wp2_with fail
    refine (readOne_88 n hP wy b (p + 1) d s v ns _ hs (by omega) (by omega) HRD (by omega)).mono ?_
    intro e w2 ho
    obtain ⟨i, ok, rfl⟩ := ho.pair
    have HO : Hid (Out (one 88 wy (pt n (tl s (p + 1)))) b s d v ns w1 (.returned (.tuple #[.int .i64 i, .bool ok])) w2) := ho
    clear ho
    go_wp2_with fail
    go_ret2
    show Out _ b s d v ns w _ _
    rw [HW.out]
    exact HO.out.pre HKP.out
  · have HA : Hid (isAt s p 88 = false) := hA
    have HRD : Hid (Rd w1 b s p v ns) := hrd
    have HKP : Hid (Kp b v v w w1) := hkp
    clear hA hrd hkp
    go_wp2_with fail
    refine (skip_91 b p s v ns _ hs hp HRD).mono ?_
    rintro e w2 (⟨hB, rfl, hrd, hkp⟩ | ⟨hB, rfl, hrd, hkp⟩)
    · have hlt := isAt_lt hB
      have HW : Hid (Fw.ways (pt n) wy (tl s p) = two (pt n) wy 85 82 93 (tl s (p + 1))) := ways_br hB
      have HRD2 : Hid (Rd w2 b s (p + 1) v ns) := hrd
      have HKP2 : Hid (Kp b v v w w2) := HKP.out.trans hkp
      clear hB hrd hkp
      go_wp2_with fail
      refine (readTwo_ur n hP wy b (p + 1) d s v ns _ hs (by omega) (by omega) HRD2 (by omega)).mono ?_
      intro e w3 ho
      obtain ⟨i, ok, rfl⟩ := ho.pair
      have HO : Hid (Out (two (pt n) wy 85 82 93 (tl s (p + 1))) b s d v ns w2 (.returned (.tuple #[.int .i64 i, .bool ok])) w3) := ho
      clear ho
      go_wp2_with fail
      go_ret2
      show Out _ b s d v ns w _ _
      rw [HW.out]
      exact HO.out.pre HKP2.out
    · have HW : Hid (Fw.ways (pt n) wy (tl s p) = (false, tl s p, .nil)) := ways_no HA.out hB
      have HRD2 : Hid (Rd w2 b s p v ns) := hrd
      have HKP2 : Hid (Kp b v v w w2) := HKP.out.trans hkp
      clear hB hrd hkp
      go_wp2_with fail
      go_ret2
      show Out _ b s d v ns w _ _
      rw [HW.out]
      exact Out.fail (tl_len_pt s p hp) HRD2.out HKP2.out (by omega)

theorem isLetter_any (c : Nat) (w : World) : Calls Try.prog 49 #[.int .u8 (c : Int)] w fun e w' => e = .returned (.bool (isLet c)) ∧ w' = w := by
  by_cases h1 : (97 : Int) ≤ (c : Int)
  · by_cases h2 : (c : Int) ≤ 122
    · go_enter Try.func49, Try.ntmps49
      go_wp2
      go_ret
      exact ⟨by simp [isLet]; omega, rfl⟩
    · go_enter Try.func49, Try.ntmps49
      go_wp2
      go_ret
      exact ⟨by simp [isLet]; omega, rfl⟩
  · go_enter Try.func49, Try.ntmps49
    go_wp2
    go_ret
    exact ⟨by simp [isLet]; omega, rfl⟩

end Go.Proofs.Ytcfbfdjmcabnkaa

namespace Go.Proofs.Ytcfbfdjmcabnkaa
open Go.RowKit Fw
open Go.Deep (BT)
set_option linter.unusedVariables false

theorem isLetter_33 (w : World) : Calls Try.prog 49 #[.int .u8 33] w fun e w' => e = .returned (.bool false) ∧ w' = w := isLetter_any 33 w
theorem isLetter_40 (w : World) : Calls Try.prog 49 #[.int .u8 40] w fun e w' => e = .returned (.bool false) ∧ w' = w := isLetter_any 40 w
theorem isLetter_69 (w : World) : Calls Try.prog 49 #[.int .u8 69] w fun e w' => e = .returned (.bool false) ∧ w' = w := isLetter_any 69 w
theorem isLetter_65 (w : World) : Calls Try.prog 49 #[.int .u8 65] w fun e w' => e = .returned (.bool false) ∧ w' = w := isLetter_any 65 w
theorem readWays_69 (n : Nat) (hP : PartAt n) (b p d : Nat) (s : ByteArray) (v : Value) (ns : List Nd) (w : World) (hs : s.size ≤ 30) (hp : p ≤ s.size) (hd : ns.length + (d + 1) ≤ p) (HR : Hid (Rd w b s p v ns)) (hn : s.size - p < n) :
    Calls Try.prog 53 #[.pointer (some ⟨b, 0, none⟩), .int .u8 69] w fun e w' => Out (Fw.ways (pt n) 69 (tl s p)) b s d v ns w e w' := readWays_any n hP 69 b p d s v ns w hs hp hd HR hn
theorem readWays_65 (n : Nat) (hP : PartAt n) (b p d : Nat) (s : ByteArray) (v : Value) (ns : List Nd) (w : World) (hs : s.size ≤ 30) (hp : p ≤ s.size) (hd : ns.length + (d + 1) ≤ p) (HR : Hid (Rd w b s p v ns)) (hn : s.size - p < n) :
    Calls Try.prog 53 #[.pointer (some ⟨b, 0, none⟩), .int .u8 65] w fun e w' => Out (Fw.ways (pt n) 65 (tl s p)) b s d v ns w e w' := readWays_any n hP 65 b p d s v ns w hs hp hd HR hn
theorem add_84 (b p : Nat) (s : ByteArray) (v : Value) (ns : List Nd) (w : World) (hn : ns.length ≤ 1000) (HR : Hid (Rd w b s p v ns)) :
    Calls Try.prog 50 #[.pointer (some ⟨b, 0, none⟩), .agg #[.int .u8 84, .int .u8 0, .int .i64 0, .int .i64 0, .int .i64 0]] w fun e w' =>
      e = .returned (.int .i64 (ns.length : Int)) ∧ ∃ v', Rd w' b s p v' (ns ++ [(84, 0, 0, 0, 0)]) ∧ Kp b v v' w w' := add_atom b p 84 s v ns w hn HR

set_option maxRecDepth 100000 in
set_option maxHeartbeats 3200000 in
theorem readPart_end (n b p d : Nat) (s : ByteArray) (v : Value) (ns : List Nd) (w : World) (hs : s.size ≤ 30) (hp : p ≤ s.size) (hd : ns.length + d ≤ p) (HR : Hid (Rd w b s p v ns)) (hlt : ¬ p < s.size) :
    Calls Try.prog 38 #[.pointer (some ⟨b, 0, none⟩)] w fun e w' => Out (pt (n + 1) (tl s p)) b s d v ns w e w' := by
  have c0 := HR.out.c0
  have c1 := HR.out.c1
  have hge : decide (s.size ≤ p) = true := by simp; omega
  have HT : Hid (pt (n + 1) (tl s p) = (false, tl s p, .nil)) := pt_end hlt
  go_enter Try.func38, Try.ntmps38
  go_wp2_with fail
  go_quiet (fail)
  go_wp2_with fail
  go_ret2
  show Out _ b s d v ns w _ _
  rw [HT.out]
  exact Out.fail (tl_len_pt s p hp) (HR.out.drewN _) ((Kp.refl _ _ _).drewN _) hd

set_option maxRecDepth 100000 in
set_option maxHeartbeats 3200000 in
theorem readPart_T (n b p d : Nat) (hP : PartAt n) (s : ByteArray) (v : Value) (ns : List Nd) (w : World) (hs : s.size ≤ 30) (hd : ns.length + d ≤ p) (HR : Hid (Rd w b s p v ns)) (hn : s.size - p < n + 1) (hlt : p < s.size) (hc : s[p].toNat = 84) :
    Calls Try.prog 38 #[.pointer (some ⟨b, 0, none⟩)] w fun e w' => Out (pt (n + 1) (tl s p)) b s d v ns w e w' := by
  have c0 := HR.out.c0
  have c1 := HR.out.c1
  have f1 := HR.out.fz 1 (by omega)
  have hge : decide (s.size ≤ p) = false := by simp; omega
  have hp0 : (0 : Int) ≤ (p : Int) := by omega
  have hp1 : (p : Int) < (s.size : Int) := by omega
  have HT : Hid (pt (n + 1) (tl s p) = (true, tl s (p + 1), .node 84 0 () .nil .nil)) := by
    show _ = _
    rw [pt_atom hlt (by rw [hc]; rfl), hc]
  go_enter Try.func38, Try.ntmps38
  go_wp2_with fail
  go_quiet (fail)
  go_wp2_with fail
  go_quiet (fail)
  go_wp2_with fail
  refine (add_84 b (p + 1) s v ns _ (by omega) ((HR.out.drewN _).move)).mono ?_
  rintro e w2 ⟨rfl, v2, hrd, hkp⟩
  have HRD : Hid (Rd w2 b s (p + 1) v2 (ns ++ [(84, 0, 0, 0, 0)])) := hrd
  have HKP : Hid (Kp b v v2 w w2) := (((Kp.refl b v w).drewN _).setB 1 _).trans hkp
  clear hrd hkp
  go_wp2_with fail
  go_ret2
  show Out _ b s d v ns w _ _
  rw [HT.out]
  refine ⟨v2, [(84, 0, 0, 0, 0)], ?_, HKP.out, ?_, .inl ⟨rfl, ns.length, rfl, ?_⟩⟩
  · show Rd w2 b s (s.size - (tl s (p + 1)).length) v2 _
    rw [tl_len_pt s (p + 1) (by omega)]
    exact HRD.out
  · show _ ≤ s.size - (tl s (p + 1)).length
    rw [tl_len_pt s (p + 1) (by omega)]
    simp
    omega
  · exact ⟨Rep.new (ns := ns) (sg := 84) (wy := 0) (li := 0) (ri := 0) (k := 0) (l := .nil) (r := .nil) trivial trivial rfl, fun h => h.snoc ⟨.inl ⟨rfl, rfl, rfl⟩, fun _ => ⟨rfl, rfl⟩, fun _ => rfl⟩⟩
set_option maxRecDepth 100000 in
set_option maxHeartbeats 3200000 in
theorem readPart_let (n b p d : Nat) (hP : PartAt n) (s : ByteArray) (v : Value) (ns : List Nd) (w : World) (hs : s.size ≤ 30) (hd : ns.length + d ≤ p) (HR : Hid (Rd w b s p v ns)) (hn : s.size - p < n + 1) (hlt : p < s.size) (c : Nat) (hc : s[p].toNat = c) (h1 : 97 ≤ c) (h2 : c ≤ 122) :
    Calls Try.prog 38 #[.pointer (some ⟨b, 0, none⟩)] w fun e w' => Out (pt (n + 1) (tl s p)) b s d v ns w e w' := by
  have c0 := HR.out.c0
  have c1 := HR.out.c1
  have f1 := HR.out.fz 1 (by omega)
  have hge : decide (s.size ≤ p) = false := by simp; omega
  have hp0 : (0 : Int) ≤ (p : Int) := by omega
  have hp1 : (p : Int) < (s.size : Int) := by omega
  have HT : Hid (pt (n + 1) (tl s p) = (true, tl s (p + 1), .node c 0 () .nil .nil)) := by
    show _ = _
    rw [pt_atom hlt (by rw [hc]; simp [isAtom]; omega), hc]
  have b84 : ((c : Int) == 84) = false := by rw [beq_eq_false_iff_ne]; omega
  have hl : isLet c = true := by simp [isLet]; omega
  go_enter Try.func38, Try.ntmps38
  go_wp2_with fail
  go_quiet (fail)
  go_wp2_with fail
  go_quiet (fail)
  go_wp2_with (go_at_call 49; refine (isLetter_any c _).mono ?_; rintro e w' ⟨rfl, rfl⟩)
  refine (add_atom b (p + 1) c s v ns _ (by omega) ((HR.out.drewN _).move)).mono ?_
  rintro e w2 ⟨rfl, v2, hrd, hkp⟩
  have HRD : Hid (Rd w2 b s (p + 1) v2 (ns ++ [(c, 0, 0, 0, 0)])) := hrd
  have HKP : Hid (Kp b v v2 w w2) := (((Kp.refl b v w).drewN _).setB 1 _).trans hkp
  clear hrd hkp
  go_wp2_with fail
  go_ret2
  show Out _ b s d v ns w _ _
  rw [HT.out]
  refine ⟨v2, [(c, 0, 0, 0, 0)], ?_, HKP.out, ?_, .inl ⟨rfl, ns.length, rfl, ?_⟩⟩
  · show Rd w2 b s (s.size - (tl s (p + 1)).length) v2 _
    rw [tl_len_pt s (p + 1) (by omega)]
    exact HRD.out
  · show _ ≤ s.size - (tl s (p + 1)).length
    rw [tl_len_pt s (p + 1) (by omega)]
    simp
    omega
  · exact ⟨Rep.new (ns := ns) (sg := c) (wy := 0) (li := 0) (ri := 0) (k := 0) (l := .nil) (r := .nil) trivial trivial rfl, fun h => h.snoc ⟨.inl ⟨by simp [isAtom]; omega, rfl, rfl⟩, fun _ => ⟨rfl, rfl⟩, fun _ => rfl⟩⟩
set_option maxRecDepth 100000 in
set_option maxHeartbeats 3200000 in
theorem readPart_not (n b p d : Nat) (hP : PartAt n) (s : ByteArray) (v : Value) (ns : List Nd) (w : World) (hs : s.size ≤ 30) (hd : ns.length + d ≤ p) (HR : Hid (Rd w b s p v ns)) (hn : s.size - p < n + 1) (hlt : p < s.size) (hc : s[p].toNat = 33) :
    Calls Try.prog 38 #[.pointer (some ⟨b, 0, none⟩)] w fun e w' => Out (pt (n + 1) (tl s p)) b s d v ns w e w' := by
  have c0 := HR.out.c0
  have c1 := HR.out.c1
  have f1 := HR.out.fz 1 (by omega)
  have hge : decide (s.size ≤ p) = false := by simp; omega
  have hp0 : (0 : Int) ≤ (p : Int) := by omega
  have hp1 : (p : Int) < (s.size : Int) := by omega
  have HT : Hid (pt (n + 1) (tl s p) = one 33 0 (pt n (tl s (p + 1)))) := pt_not hlt hc
  go_enter Try.func38, Try.ntmps38
  go_wp2_with fail
  go_quiet (fail)
  go_wp2_with fail
  go_quiet (fail)
  go_wp2_with (go_at_call 49; refine (isLetter_33 _).mono ?_; rintro e w' ⟨rfl, rfl⟩)
  refine (readOne_33 n hP b (p + 1) d s v ns _ hs (by omega) (by omega) ((HR.out.drewN _).move) (by omega)).mono ?_
  intro e w2 ho
  obtain ⟨i, ok, rfl⟩ := ho.pair
  have HO : Hid (Out (one 33 0 (pt n (tl s (p + 1)))) b s d v ns _ (.returned (.tuple #[.int .i64 i, .bool ok])) w2) := ho
  clear ho
  go_wp2_with fail
  go_ret2
  show Out _ b s d v ns w _ _
  rw [HT.out]
  exact HO.out.pre (((Kp.refl b v w).drewN _).setB 1 _)
set_option maxRecDepth 100000 in
set_option maxHeartbeats 3200000 in
theorem readPart_open (n b p d : Nat) (hP : PartAt n) (s : ByteArray) (v : Value) (ns : List Nd) (w : World) (hs : s.size ≤ 30) (hd : ns.length + d ≤ p) (HR : Hid (Rd w b s p v ns)) (hn : s.size - p < n + 1) (hlt : p < s.size) (hc : s[p].toNat = 40) :
    Calls Try.prog 38 #[.pointer (some ⟨b, 0, none⟩)] w fun e w' => Out (pt (n + 1) (tl s p)) b s d v ns w e w' := by
  have c0 := HR.out.c0
  have c1 := HR.out.c1
  have f1 := HR.out.fz 1 (by omega)
  have hge : decide (s.size ≤ p) = false := by simp; omega
  have hp0 : (0 : Int) ≤ (p : Int) := by omega
  have hp1 : (p : Int) < (s.size : Int) := by omega
  have HT : Hid (pt (n + 1) (tl s p) = two (pt n) 0 38 43 41 (tl s (p + 1))) := pt_open hlt hc
  go_enter Try.func38, Try.ntmps38
  go_wp2_with fail
  go_quiet (fail)
  go_wp2_with fail
  go_quiet (fail)
  go_wp2_with (go_at_call 49; refine (isLetter_40 _).mono ?_; rintro e w' ⟨rfl, rfl⟩)
  refine (readTwo_bin n hP b (p + 1) d s v ns _ hs (by omega) (by omega) ((HR.out.drewN _).move) (by omega)).mono ?_
  intro e w2 ho
  obtain ⟨i, ok, rfl⟩ := ho.pair
  have HO : Hid (Out (two (pt n) 0 38 43 41 (tl s (p + 1))) b s d v ns _ (.returned (.tuple #[.int .i64 i, .bool ok])) w2) := ho
  clear ho
  go_wp2_with fail
  go_ret2
  show Out _ b s d v ns w _ _
  rw [HT.out]
  exact HO.out.pre (((Kp.refl b v w).drewN _).setB 1 _)
set_option maxRecDepth 100000 in
set_option maxHeartbeats 3200000 in
theorem readPart_E (n b p d : Nat) (hP : PartAt n) (s : ByteArray) (v : Value) (ns : List Nd) (w : World) (hs : s.size ≤ 30) (hd : ns.length + d ≤ p) (HR : Hid (Rd w b s p v ns)) (hn : s.size - p < n + 1) (hlt : p < s.size) (hc : s[p].toNat = 69) :
    Calls Try.prog 38 #[.pointer (some ⟨b, 0, none⟩)] w fun e w' => Out (pt (n + 1) (tl s p)) b s d v ns w e w' := by
  have c0 := HR.out.c0
  have c1 := HR.out.c1
  have f1 := HR.out.fz 1 (by omega)
  have hge : decide (s.size ≤ p) = false := by simp; omega
  have hp0 : (0 : Int) ≤ (p : Int) := by omega
  have hp1 : (p : Int) < (s.size : Int) := by omega
  have HT : Hid (pt (n + 1) (tl s p) = Fw.ways (pt n) 69 (tl s (p + 1))) := by show _ = _; rw [pt_way hlt (.inl hc), hc]
  go_enter Try.func38, Try.ntmps38
  go_wp2_with fail
  go_quiet (fail)
  go_wp2_with fail
  go_quiet (fail)
  go_wp2_with (go_at_call 49; refine (isLetter_69 _).mono ?_; rintro e w' ⟨rfl, rfl⟩)
  refine (readWays_69 n hP b (p + 1) d s v ns _ hs (by omega) (by omega) ((HR.out.drewN _).move) (by omega)).mono ?_
  intro e w2 ho
  obtain ⟨i, ok, rfl⟩ := ho.pair
  have HO : Hid (Out (Fw.ways (pt n) 69 (tl s (p + 1))) b s d v ns _ (.returned (.tuple #[.int .i64 i, .bool ok])) w2) := ho
  clear ho
  go_wp2_with fail
  go_ret2
  show Out _ b s d v ns w _ _
  rw [HT.out]
  exact HO.out.pre (((Kp.refl b v w).drewN _).setB 1 _)
set_option maxRecDepth 100000 in
set_option maxHeartbeats 3200000 in
theorem readPart_A (n b p d : Nat) (hP : PartAt n) (s : ByteArray) (v : Value) (ns : List Nd) (w : World) (hs : s.size ≤ 30) (hd : ns.length + d ≤ p) (HR : Hid (Rd w b s p v ns)) (hn : s.size - p < n + 1) (hlt : p < s.size) (hc : s[p].toNat = 65) :
    Calls Try.prog 38 #[.pointer (some ⟨b, 0, none⟩)] w fun e w' => Out (pt (n + 1) (tl s p)) b s d v ns w e w' := by
  have c0 := HR.out.c0
  have c1 := HR.out.c1
  have f1 := HR.out.fz 1 (by omega)
  have hge : decide (s.size ≤ p) = false := by simp; omega
  have hp0 : (0 : Int) ≤ (p : Int) := by omega
  have hp1 : (p : Int) < (s.size : Int) := by omega
  have HT : Hid (pt (n + 1) (tl s p) = Fw.ways (pt n) 65 (tl s (p + 1))) := by show _ = _; rw [pt_way hlt (.inr hc), hc]
  go_enter Try.func38, Try.ntmps38
  go_wp2_with fail
  go_quiet (fail)
  go_wp2_with fail
  go_quiet (fail)
  go_wp2_with (go_at_call 49; refine (isLetter_65 _).mono ?_; rintro e w' ⟨rfl, rfl⟩)
  refine (readWays_65 n hP b (p + 1) d s v ns _ hs (by omega) (by omega) ((HR.out.drewN _).move) (by omega)).mono ?_
  intro e w2 ho
  obtain ⟨i, ok, rfl⟩ := ho.pair
  have HO : Hid (Out (Fw.ways (pt n) 65 (tl s (p + 1))) b s d v ns _ (.returned (.tuple #[.int .i64 i, .bool ok])) w2) := ho
  clear ho
  go_wp2_with fail
  go_ret2
  show Out _ b s d v ns w _ _
  rw [HT.out]
  exact HO.out.pre (((Kp.refl b v w).drewN _).setB 1 _)
set_option maxRecDepth 100000 in
set_option maxHeartbeats 3200000 in
theorem readPart_none (n b p d : Nat) (hP : PartAt n) (s : ByteArray) (v : Value) (ns : List Nd) (w : World) (hs : s.size ≤ 30) (hd : ns.length + d ≤ p) (HR : Hid (Rd w b s p v ns)) (hn : s.size - p < n + 1) (hlt : p < s.size) (c : Nat) (hc : s[p].toNat = c) (h84 : ¬ c = 84) (hn1 : ¬ (97 ≤ c ∧ c ≤ 122)) (h33 : ¬ c = 33) (h40 : ¬ c = 40) (h69 : ¬ c = 69) (h65 : ¬ c = 65) :
    Calls Try.prog 38 #[.pointer (some ⟨b, 0, none⟩)] w fun e w' => Out (pt (n + 1) (tl s p)) b s d v ns w e w' := by
  have c0 := HR.out.c0
  have c1 := HR.out.c1
  have f1 := HR.out.fz 1 (by omega)
  have hge : decide (s.size ≤ p) = false := by simp; omega
  have hp0 : (0 : Int) ≤ (p : Int) := by omega
  have hp1 : (p : Int) < (s.size : Int) := by omega
  have HT : Hid (pt (n + 1) (tl s p) = (false, tl s p, .nil)) := pt_none hlt (by rw [hc]; simp [isAtom]; omega) (by omega) (by omega) (by omega)
  have b84 : ((c : Int) == 84) = false := by rw [beq_eq_false_iff_ne]; omega
  have b33 : ((c : Int) == 33) = false := by rw [beq_eq_false_iff_ne]; omega
  have b40 : ((c : Int) == 40) = false := by rw [beq_eq_false_iff_ne]; omega
  have b69 : ((c : Int) == 69) = false := by rw [beq_eq_false_iff_ne]; omega
  have b65 : ((c : Int) == 65) = false := by rw [beq_eq_false_iff_ne]; omega
  have hl : isLet c = false := by simp [isLet]; omega
  go_enter Try.func38, Try.ntmps38
  go_wp2_with fail
  go_quiet (fail)
  go_wp2_with fail
  go_quiet (fail)
  go_wp2_with (go_at_call 49; refine (isLetter_any c _).mono ?_; rintro e w' ⟨rfl, rfl⟩)
  go_ret2
  show Out _ b s d v ns w _ _
  rw [HT.out]
  exact Out.fail (tl_len_pt s p (by omega)) (HR.out.drewN _) ((Kp.refl _ _ _).drewN _) hd
theorem readPart_any : ∀ n, PartAt n := by
  intro n
  induction n with
  | zero => intro b p d s v ns w _ _ _ _ h; omega
  | succ n ih =>
    intro b p d s v ns w hs hp hd HR hn
    by_cases hlt : p < s.size
    · by_cases h1 : s[p].toNat = 84
      · exact readPart_T n b p d ih s v ns w hs hd HR hn hlt h1
      by_cases h2 : s[p].toNat = 33
      · exact readPart_not n b p d ih s v ns w hs hd HR hn hlt h2
      by_cases h3 : s[p].toNat = 40
      · exact readPart_open n b p d ih s v ns w hs hd HR hn hlt h3
      by_cases h4 : s[p].toNat = 69
      · exact readPart_E n b p d ih s v ns w hs hd HR hn hlt h4
      by_cases h5 : s[p].toNat = 65
      · exact readPart_A n b p d ih s v ns w hs hd HR hn hlt h5
      by_cases h6 : 97 ≤ s[p].toNat ∧ s[p].toNat ≤ 122
      · exact readPart_let n b p d ih s v ns w hs hd HR hn hlt _ rfl h6.1 h6.2
      exact readPart_none n b p d ih s v ns w hs hd HR hn hlt _ rfl h1 h6 h2 h3 h4 h5
    · exact readPart_end n b p d s v ns w hs hp hd HR hlt

end Go.Proofs.Ytcfbfdjmcabnkaa

namespace Go.Proofs.Ytcfbfdjmcabnkaa
open Go.RowKit Fw
open Go.Deep (BT)
set_option linter.unusedVariables false

/-- what reading a formula comes to -/
def ptAll (s : ByteArray) : Bool × List UInt8 × Fm := pt (s.size + 1) (tl s 0)

theorem kp_below {b : Nat} {v' : Value} {W w' : World} (hk : Kp b (.slice none 0 0) v' W w') (hb : b ≤ W.heap.size) : Below b W w' :=
  ⟨hk.os, hk.tape, hk.output, hk.size, fun k h => hk.keep k (by omega) (by omega) (by intro e; cases e)⟩

theorem rd_new (w : World) (o : Obj) (s : ByteArray) : Rd ((w.alloc o).alloc (.cells #[.string s, .int .i64 0, .slice none 0 0] 80)) (w.heap.size + 1) s 0 (.slice none 0 0) [] := by
  refine ⟨by simp, by simp, by simp, by simp, ?_, World.ownsRow_nil _ _ _ _⟩
  intro j hj
  have hb : ((w.alloc o).alloc (.cells #[.string s, .int .i64 0, .slice none 0 0] 80)).heap[w.heap.size + 1]? = some (.cells #[.string s, .int .i64 0, .slice none 0 0] 80) := heap_alloc2_new w _ _
  exact frozen_of_row _ _ _ _ _ hb

theorem set4 {w w1 : World} {a b c d : Value} {i j k l : Nat} (h : Below w.heap.size w w1) :
    Below w.heap.size w ((((w1.setCell ⟨w.heap.size, i, none⟩ a).setCell ⟨w.heap.size, j, none⟩ b).setCell ⟨w.heap.size, k, none⟩ c).setCell ⟨w.heap.size, l, none⟩ d) :=
  (((h.setCell (p := ⟨w.heap.size, i, none⟩) (Nat.le_refl _) a).setCell (p := ⟨w.heap.size, j, none⟩) (Nat.le_refl _) b).setCell (p := ⟨w.heap.size, k, none⟩) (Nat.le_refl _) c).setCell (p := ⟨w.heap.size, l, none⟩) (Nat.le_refl _) d

theorem own4 {w w1 : World} {a b c d v : Value} {i j k l n : Nat} {xs : List Value} (h : w1.ownsRow (w.heap.size + 1 + 1) 84 5 v n xs) :
    ((((w1.setCell ⟨w.heap.size, i, none⟩ a).setCell ⟨w.heap.size, j, none⟩ b).setCell ⟨w.heap.size, k, none⟩ c).setCell ⟨w.heap.size, l, none⟩ d).ownsRow (w.heap.size + 2) 84 5 v n xs :=
  ownsRow_setCell_below (ownsRow_setCell_below (ownsRow_setCell_below (ownsRow_setCell_below h (by simp; omega) a) (by simp; omega) b) (by simp; omega) c) (by simp; omega) d

set_option maxRecDepth 100000 in
set_option maxHeartbeats 3200000 in
theorem loadFormula_long (s : ByteArray) (w : World) (hs : ¬ s.size ≤ 30) :
    Calls Try.prog 29 #[.string s] w fun e w' => e = .returned (.agg #[.int .i64 1, .int .i64 0, .slice none 0 0, .int .i64 0]) ∧ Below w.heap.size w w' := by
  have h : (30 : Int) < (s.size : Int) := by omega
  go_enter Try.func29, Try.ntmps29
  go_wp2_with fail
  exact bodyPost_ret (v := .agg #[.int .i64 1, .int .i64 0, .slice none 0 0, .int .i64 0]) (by simp [results, Try.results29, go_sem]) rfl ⟨rfl, (Below.refl _ _).alloc (Nat.le_refl _) _⟩

set_option maxRecDepth 100000 in
set_option maxHeartbeats 3200000 in
theorem loadFormula_any (s : ByteArray) (w : World) (hs : s.size ≤ 30) :
    Calls Try.prog 29 #[.string s] w fun e w' => Below w.heap.size w w' ∧
      ((¬ ((ptAll s).1 = true ∧ (ptAll s).2.1 = []) ∧ e = .returned (.agg #[.int .i64 5, .int .i64 ((s.size - (ptAll s).2.1.length : Nat) : Int), .slice none 0 0, .int .i64 0])) ∨
       ((ptAll s).1 = true ∧ (ptAll s).2.1 = [] ∧ 3 < nst (ptAll s).2.2 ∧ e = .returned (.agg #[.int .i64 6, .int .i64 0, .slice none 0 0, .int .i64 0])) ∨
       ((ptAll s).1 = true ∧ (ptAll s).2.1 = [] ∧ ¬ 3 < nst (ptAll s).2.2 ∧ ∃ v ns, ∃ i : Nat, e = .returned (.agg #[.int .i64 0, .int .i64 0, v, .int .i64 (i : Int)]) ∧ w'.ownsRow (w.heap.size + 2) 84 5 v ns.length (flatN ns) ∧ Rep ns (ptAll s).2.2 i ∧ Clo ns ∧ ns.length ≤ 30)) := by
  go_enter Try.func29, Try.ntmps29
  go_wp2_with fail
  refine (readPart_any (s.size + 1) (w.heap.size + 1) 0 0 s (.slice none 0 0) [] _ hs (by omega) (by simp) (rd_new w _ s) (by omega)).mono ?_
  rintro e w1 ⟨v', ns', hrd, hkp, hlen, hh⟩
  rw [List.nil_append] at hrd hlen hh
  have hb1 : Below (w.heap.size + 1) _ w1 := kp_below hkp (by simp)
  have HB1 : Hid (Below w.heap.size w w1) := (((Below.refl _ _).alloc (Nat.le_refl _) _).alloc (by simp) _).trans (hb1.mono (by omega))
  have r0 : w1.cell? ⟨w.heap.size, 0, none⟩ = some (.int .i64 0) := by rw [hb1.cell (p := ⟨w.heap.size, 0, none⟩) (by simp)]; simp
  have r1 : w1.cell? ⟨w.heap.size, 1, none⟩ = some (.int .i64 0) := by rw [hb1.cell (p := ⟨w.heap.size, 1, none⟩) (by simp)]; simp
  have r2 : w1.cell? ⟨w.heap.size, 2, none⟩ = some (.slice none 0 0) := by rw [hb1.cell (p := ⟨w.heap.size, 2, none⟩) (by simp)]; simp
  have r3 : w1.cell? ⟨w.heap.size, 3, none⟩ = some (.int .i64 0) := by rw [hb1.cell (p := ⟨w.heap.size, 3, none⟩) (by simp)]; simp
  have rz : ∀ o, w1.frozen? ⟨w.heap.size, o, none⟩ = false := by
    intro o
    rw [hb1.frozen (p := ⟨w.heap.size, o, none⟩) (by simp)]
    exact frozen_of_row _ _ _ _ _ (heap_alloc2_old w _ _)
  have z0 := rz 0
  have z1 := rz 1
  have z2 := rz 2
  have z3 := rz 3
  have c1 := hrd.c1
  have c2 := hrd.c2
  have HRD : Hid (Rd w1 (w.heap.size + 1) s (s.size - (ptAll s).2.1.length) v' ns') := hrd
  have c1' : w1.cell? ⟨w.heap.size + 1, 1, none⟩ = some (.int .i64 ((s.size - (ptAll s).2.1.length : Nat) : Int)) := c1
  clear c1 hb1 hkp hrd rz
  rcases hh with ⟨hx, i, rfl, hrep, hclo⟩ | ⟨hx, rfl⟩
  · have HX : Hid ((ptAll s).1 = true) := hx
    have HREP : Hid (Rep ns' (ptAll s).2.2 i) := hrep
    have HCLO : Hid (Clo ns') := hclo clo_nil
    clear hclo
    have hg : good (ptAll s).2.2 := (pt_sound _ _ hx).2
    have hrl : (ptAll s).2.1.length ≤ s.size := (rest_tl (by omega) hx).2.2
    obtain ⟨p1, hp1⟩ : ∃ p1, p1 = s.size - (ptAll s).2.1.length := ⟨_, rfl⟩
    rw [← hp1] at c1'
    have HP1 : Hid (p1 = s.size - (ptAll s).2.1.length) := hp1
    by_cases hq : (ptAll s).2.1 = []
    · have hpe : p1 = s.size := by rw [hp1, hq]; simp
      have hne : (((p1 : Int)) != (s.size : Int)) = false := by simp [hpe]
      have HQ : Hid ((ptAll s).2.1 = []) := hq
      obtain ⟨g, cap, hv, hi, hbg, hgl, hcell⟩ := HRD.out.nest HREP.out hg
      obtain ⟨k, hk⟩ : ∃ k, k = nst (ptAll s).2.2 := ⟨_, rfl⟩
      rw [← hk] at hcell
      have HK : Hid (k = nst (ptAll s).2.2) := hk
      rw [hv] at c2
      have HV : Hid (v' = .slice (some ⟨g, 0, none⟩) ns'.length cap) := hv
      have hi2 : (i : Int) < (ns'.length : Int) := by omega
      have e1 : w.heap.size ≠ w.heap.size + 1 := by omega
      have e2 : w.heap.size + 1 ≠ w.heap.size := by omega
      clear hx hrep hg hrl hp1 hq hpe hk hv
      by_cases h3 : (3 : Int) < (k : Int)
      · go_wp2_with fail
        refine bodyPost_ret (v := .agg #[.int .i64 6, .int .i64 0, .slice none 0 0, .int .i64 0]) (by simp [results, Try.results29, go_sem, r0, r1, r2, r3]) rfl ?_
        exact ⟨set4 HB1.out, .inr (.inl ⟨HX.out, HQ.out, by rw [← HK.out]; omega, rfl⟩)⟩
      · go_wp2_with fail
        refine bodyPost_ret (v := .agg #[.int .i64 0, .int .i64 0, .slice (some ⟨g, 0, none⟩) ns'.length cap, .int .i64 (i : Int)]) (by simp [results, Try.results29, go_sem, r0, r1, r2, r3]) rfl ?_
        exact ⟨set4 HB1.out, .inr (.inr ⟨HX.out, HQ.out, by rw [← HK.out]; omega, _, ns', i, rfl, by rw [← HV.out]; exact own4 HRD.out.own, HREP.out, HCLO.out, by omega⟩)⟩
    · have hpe : p1 < s.size := by
        have : 0 < (ptAll s).2.1.length := List.length_pos_iff.2 hq
        omega
      have hne : (((p1 : Int)) != (s.size : Int)) = true := by rw [bne_iff_ne]; omega
      have HQ : Hid (¬ (ptAll s).2.1 = []) := hq
      clear hx hrep hg hrl hp1 hq
      go_wp2_with fail
      refine bodyPost_ret (v := .agg #[.int .i64 5, .int .i64 (p1 : Int), .slice none 0 0, .int .i64 0]) (by simp [results, Try.results29, go_sem, r0, r1, r2, r3]) rfl ?_
      exact ⟨set4 HB1.out, .inl ⟨fun h => HQ.out h.2, by rw [← HP1.out]⟩⟩
  · have HX : Hid ((ptAll s).1 = false) := hx
    obtain ⟨p1, hp1⟩ : ∃ p1, p1 = s.size - (ptAll s).2.1.length := ⟨_, rfl⟩
    rw [← hp1] at c1'
    have HP1 : Hid (p1 = s.size - (ptAll s).2.1.length) := hp1
    clear hx hp1
    go_wp2_with fail
    refine bodyPost_ret (v := .agg #[.int .i64 5, .int .i64 (p1 : Int), .slice none 0 0, .int .i64 0]) (by simp [results, Try.results29, go_sem, r0, r1, r2, r3]) rfl ?_
    exact ⟨set4 HB1.out, .inl ⟨fun h => by rw [HX.out] at h; exact absurd h.1 (by simp), by rw [← HP1.out]⟩⟩

end Go.Proofs.Ytcfbfdjmcabnkaa

namespace Go.Proofs.Ytcfbfdjmcabnkaa
open Go.RowKit Fw
open Go.Deep (BT)
set_option linter.unusedVariables false

/-- P4, of any text -/
def frmAll (s : ByteArray) : Nat × Nat := if s.size ≤ 30 then frm s else (1, 0)

theorem frm_bad {s : ByteArray} (h : ¬ ((ptAll s).1 = true ∧ (ptAll s).2.1 = [])) : frm s = (5, s.size - (ptAll s).2.1.length) := by
  show (if (ptAll s).1 = true ∧ (ptAll s).2.1 = [] then (if 3 < nst (ptAll s).2.2 then (6, 0) else (0, 0)) else (5, s.size - (ptAll s).2.1.length)) = _
  rw [if_neg h]
theorem frm_deep {s : ByteArray} (h : (ptAll s).1 = true) (h2 : (ptAll s).2.1 = []) (h3 : 3 < nst (ptAll s).2.2) : frm s = (6, 0) := by
  show (if (ptAll s).1 = true ∧ (ptAll s).2.1 = [] then (if 3 < nst (ptAll s).2.2 then (6, 0) else (0, 0)) else (5, s.size - (ptAll s).2.1.length)) = _
  rw [if_pos ⟨h, h2⟩, if_pos h3]
theorem frm_good {s : ByteArray} (h : (ptAll s).1 = true) (h2 : (ptAll s).2.1 = []) (h3 : ¬ 3 < nst (ptAll s).2.2) : frm s = (0, 0) := by
  show (if (ptAll s).1 = true ∧ (ptAll s).2.1 = [] then (if 3 < nst (ptAll s).2.2 then (6, 0) else (0, 0)) else (5, s.size - (ptAll s).2.1.length)) = _
  rw [if_pos ⟨h, h2⟩, if_neg h3]

/-- what loadFormula answers, of any text -/
theorem loadFormula_all (s : ByteArray) (w : World) :
    Calls Try.prog 29 #[.string s] w fun e w' => Below w.heap.size w w' ∧ ∃ (a : Option Addr) (n cap : Nat) (r : Int), e = .returned (.agg #[.int .i64 ((frmAll s).1 : Nat), .int .i64 ((frmAll s).2 : Nat), .slice a n cap, .int .i64 r]) ∧
      ((frmAll s).1 = 0 → s.size ≤ 30 ∧ ∃ ns t, ∃ i : Nat, r = (i : Int) ∧ w'.ownsRow (w.heap.size + 2) 84 5 (.slice a n cap) ns.length (flatN ns) ∧ Rep ns t i ∧ good t ∧ s.data.toList = txt t) := by
  by_cases hs : s.size ≤ 30
  · refine (loadFormula_any s w hs).mono ?_
    have e0 : frmAll s = frm s := if_pos hs
    rintro e w' ⟨hb, ⟨h1, rfl⟩ | ⟨h1, h2, h3, rfl⟩ | ⟨h1, h2, h3, v, ns, i, rfl, hown, hrep, hclo, _⟩⟩
    · exact ⟨hb, _, _, _, _, by rw [e0, frm_bad h1]; rfl, by rw [e0, frm_bad h1]; intro h; simp at h⟩
    · exact ⟨hb, _, _, _, _, by rw [e0, frm_deep h1 h2 h3]; rfl, by rw [e0, frm_deep h1 h2 h3]; intro h; simp at h⟩
    · obtain ⟨a, cap, rfl⟩ : ∃ a cap, v = .slice a ns.length cap := by
        rcases hown.2 with ⟨q1, q2⟩ | ⟨g, cap, cur, q1, _⟩
        · exact ⟨none, 0, by rw [q1, q2]⟩
        · exact ⟨_, _, q1⟩
      refine ⟨hb, a, ns.length, cap, i, by rw [e0, frm_good h1 h2 h3]; rfl, fun _ => ⟨hs, ns, (ptAll s).2.2, i, rfl, hown, hrep, ?_⟩⟩
      have hp := pt_sound (s.size + 1) (tl s 0) h1
      refine ⟨hp.2, ?_⟩
      have e1 := hp.1
      have h2' : (pt (s.size + 1) (tl s 0)).2.1 = [] := h2
      rw [h2', List.append_nil, tl0] at e1
      rw [e1]
      show txt (pt (s.size + 1) s.data.toList).2.2 = txt (pt (s.size + 1) (tl s 0)).2.2
      rw [tl0]
  · refine (loadFormula_long s w hs).mono ?_
    rintro e w' ⟨rfl, hb⟩
    have e0 : frmAll s = (1, 0) := if_neg hs
    exact ⟨hb, _, _, _, _, by rw [e0]; rfl, by rw [e0]; intro h; simp at h⟩

end Go.Proofs.Ytcfbfdjmcabnkaa

