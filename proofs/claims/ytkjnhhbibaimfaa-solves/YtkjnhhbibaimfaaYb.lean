import Derived.Test.YtkjnhhbibaimfaaYa
import Derived.Deep.RegionLaw
import Derived.BigRegion
namespace Go.Proofs.Ytkjnhhbibaimfaa
open Go.RowKit Fw
open Go.Deep (BT)
set_option linter.unusedVariables false

theorem Try.info97 : (Try.prog.info? 97).map (fun i => (i.zero, i.size, i.bytes)) = some (some (.agg #[.int .u8 0, .int .u8 0, .int .i64 0, .int .i64 0, .int .i64 0]), 5, 32) := by kernel_rfl

theorem Rd.form {w : World} {b p : Nat} {s : ByteArray} {v : Value} {ns : List Nd} (h : Rd w b s p v ns) : ∃ a cap, v = .slice a ns.length cap := by
  rcases h.own.2 with ⟨h1, h2⟩ | ⟨g, cap, cur, h1, _⟩
  · exact ⟨none, 0, by rw [h1, h2]⟩
  · exact ⟨_, _, h1⟩

theorem Rd.alloc {w : World} {b p : Nat} {s : ByteArray} {v : Value} {ns : List Nd} (h : Rd w b s p v ns) (o : Obj) : Rd (w.alloc o) b s p v ns := by
  have hb : ∀ a : Addr, a.block = b → (w.alloc o).cell? a = w.cell? a := fun a ha => World.cell?_of_block (w := w) (Below.heap_alloc _ _ _ (by rw [ha]; exact h.lt))
  have hf : ∀ a : Addr, a.block = b → (w.alloc o).frozen? a = w.frozen? a := fun a ha => World.frozen?_of_block (w := w) (Below.heap_alloc _ _ _ (by rw [ha]; exact h.lt))
  refine ⟨by have := h.lt; simp; omega, (hb _ rfl).trans h.c0, (hb _ rfl).trans h.c1, (hb _ rfl).trans h.c2, fun o ho => (hf _ rfl).trans (h.fz o ho), h.own.alloc o⟩

theorem Kp.alloc {b : Nat} {v v' : Value} {w w' : World} (h : Kp b v v' w w') (o : Obj) : Kp b v v' w (w'.alloc o) :=
  ⟨h.os, h.tape, h.output, by have := h.size; simp; omega, fun k h1 h2 h3 => (Below.heap_alloc _ _ _ (by have := h.size; omega)).trans (h.keep k h1 h2 h3), h.at'⟩

theorem add_fin {w W w1 : World} {b p gg cap2 : Nat} {s : ByteArray} {v : Value} {ns : List Nd} {x : Nd} {l5 : List Value} {o : Obj} (hr : Rd W b s p v ns) (hk : Kp b v v w W)
    (hown1 : w1.ownsRow (b + 1) 97 5 (.slice (some ⟨gg, 0, none⟩) (ns.length + 1) cap2) (ns.length + 1) (flatN ns ++ l5)) (h5 : l5 = five x)
    (hgrow : (W.alloc o).drew.grownBy w1 v.ownBlock) (hat : v.ownBlock = some gg ∨ gg = W.heap.size + 1) :
    ∃ v', Rd (w1.setCell ⟨b, 2, none⟩ (.slice (some ⟨gg, 0, none⟩) (ns.length + 1) cap2)) b s p v' (ns ++ [x]) ∧ Kp b v v' w (w1.setCell ⟨b, 2, none⟩ (.slice (some ⟨gg, 0, none⟩) (ns.length + 1) cap2)) := by
  have hlt := hr.lt
  have ab : some b ≠ v.ownBlock := fun e => by have := (hr.own.lt _ e.symm).1; omega
  have hra := hr.alloc o
  have hsz : W.heap.size + 1 ≤ w1.heap.size := by have := hgrow.size; simpa using this
  have hks := hk.size
  have hc : ∀ j, w1.cell? ⟨b, j, none⟩ = (W.alloc o).cell? ⟨b, j, none⟩ := fun j => hgrow.cell_far ⟨b, j, none⟩ (by simp; omega) ab
  have hf : ∀ j, w1.frozen? ⟨b, j, none⟩ = (W.alloc o).frozen? ⟨b, j, none⟩ := fun j => hgrow.frozen_far ⟨b, j, none⟩ (by simp; omega) ab
  refine ⟨.slice (some ⟨gg, 0, none⟩) (ns.length + 1) cap2, ⟨by simp; omega, ?_, ?_, ?_, ?_, ?_⟩, ⟨?_, ?_, ?_, ?_, ?_, ?_⟩⟩
  · rw [cell_otherY (addr_ne3 (by omega)), hc]; exact hra.c0
  · rw [cell_otherY (addr_ne3 (by omega)), hc]; exact hra.c1
  · exact cell_sameY ((hc 2).trans hra.c2)
  · intro j hj
    rw [World.frozen?_setCell, hf]
    exact hra.fz j hj
  · have := ownsRow_setCell_below hown1 (a := ⟨b, 2, none⟩) (by simp) (.slice (some ⟨gg, 0, none⟩) (ns.length + 1) cap2)
    rw [h5, ← flatN_snoc] at this
    simpa using this
  · exact hgrow.os.trans hk.os
  · exact hgrow.tape.trans hk.tape
  · exact hgrow.output.trans hk.output
  · simp; omega
  · intro k h1 h2 h3
    rw [Below.heap_setCell _ _ _ _ h2, hgrow.block k (by simp; omega) (fun e => h3 e.symm)]
    exact (Below.heap_alloc W o k (by omega)).trans (hk.keep k h1 h2 h3)
  · rcases hat with e | e
    · exact .inl e.symm
    · exact .inr ⟨gg, rfl, by omega⟩

set_option maxRecDepth 100000 in
set_option maxHeartbeats 3200000 in
theorem add_any (b p sg wy li ri k : Nat) (s : ByteArray) (v : Value) (ns : List Nd) (w : World) (hn : ns.length ≤ 1000) (hk : k ≤ 1000) (HR : Hid (Rd w b s p v ns)) :
    Calls Try.prog 68 #[.pointer (some ⟨b, 0, none⟩), .agg #[.int .u8 (sg : Int), .int .u8 (wy : Int), .int .i64 (li : Int), .int .i64 (ri : Int), .int .i64 (k : Int)]] w fun e w' =>
      e = .returned (.int .i64 (ns.length : Int)) ∧ ∃ v', Rd w' b s p v' (ns ++ [(sg, wy, li, ri, k + (if wy = 0 then 0 else 1))]) ∧ Kp b v v' w w' := by
  obtain ⟨i0, hi0, hz0, hz1, hz2⟩ := info_parts Try.info97
  obtain ⟨a, cap, rfl⟩ := HR.out.form
  have c2 := HR.out.c2
  have f2 := HR.out.fz 2 (by omega)
  have hlt := HR.out.lt
  by_cases hw : wy = 0
  · subst hw
    go_enter Try.func68, Try.ntmps68
    go_wp2_with fail
    generalize hW : w.alloc (Obj.cells #[Value.int IntKind.u8 ↑sg, Value.int IntKind.u8 0, Value.int IntKind.i64 ↑li, Value.int IntKind.i64 ↑ri, Value.int IntKind.i64 ↑k] 97) = W
    have HRW : Hid (Rd W b s p (.slice a ns.length cap) ns) := by show Rd _ _ _ _ _ _; rw [← hW]; exact HR.out.alloc _
    have HKW : Hid (Kp b (.slice a ns.length cap) (.slice a ns.length cap) w W) := by show Kp _ _ _ _ _; rw [← hW]; exact (Kp.refl _ _ _).alloc _
    have q0 : W.cell? ⟨w.heap.size, 0, none⟩ = some (Value.int IntKind.u8 ↑sg) := by rw [← hW]; simp
    have q1 : W.cell? ⟨w.heap.size, 1, none⟩ = some (Value.int IntKind.u8 0) := by rw [← hW]; simp
    have q2 : W.cell? ⟨w.heap.size, 2, none⟩ = some (Value.int IntKind.i64 ↑li) := by rw [← hW]; simp
    have q3 : W.cell? ⟨w.heap.size, 3, none⟩ = some (Value.int IntKind.i64 ↑ri) := by rw [← hW]; simp
    have q4 : W.cell? ⟨w.heap.size, 4, none⟩ = some (Value.int IntKind.i64 ↑k) := by rw [← hW]; simp
    have hWs : w.heap.size < W.heap.size := by rw [← hW]; simp
    have d2 := HRW.out.c2
    have hca : ∀ o, (W.alloc o).cell? ⟨b, 2, none⟩ = some (.slice a ns.length cap) := fun o => (HRW.out.alloc o).c2
    have HFA : Hid (∀ o, (W.alloc o).frozen? ⟨b, 2, none⟩ = false) := fun o => (HRW.out.alloc o).fz 2 (by omega)
    have g2 := HRW.out.fz 2 (by omega)
    have hown := HRW.out.own
    have ab : (Value.slice a ns.length cap).ownBlock ≠ some b := fun e => by have := (HR.out.own.lt _ e).1; omega
    have aw : (Value.slice a ns.length cap).ownBlock ≠ some w.heap.size := fun e => by have := (HR.out.own.lt _ e).2; omega
    have HW : Hid (w.alloc (Obj.cells #[Value.int IntKind.u8 ↑sg, Value.int IntKind.u8 0, Value.int IntKind.i64 ↑li, Value.int IntKind.i64 ↑ri, Value.int IntKind.i64 ↑k] 97) = W) := hW
    clear hW c2 f2
    go_region_law ((refine step_append_lies _ (by rfl) _ _ _ (by rfl) (b + 1) 97 i0 _ 5 32 Try.underlying62 hi0 hz0 hz1 hz2 rfl (by omega) (.slice a ns.length cap) ns.length (flatN ns) (by rfl) ((hown.alloc _).drew) ⟨W.heap.size, 0, none⟩ 1 1 [Value.int IntKind.u8 ↑sg, Value.int IntKind.u8 0, Value.int IntKind.i64 ↑li, Value.int IntKind.i64 ↑ri, Value.int IntKind.i64 ↑k] (by rfl) (by rfl) (World.news_of_block (cs := #[Value.int IntKind.u8 ↑sg, Value.int IntKind.u8 0, Value.int IntKind.i64 ↑li, Value.int IntKind.i64 ↑ri, Value.int IntKind.i64 ↑k]) (t := 97) (fr := (0, 0)) (heap_alloc_new W _)) (by simp [Value.oneCell']) (by omega) (by unfold maxLen; omega) (by omega) (by simp; omega) (W.heap.size + 1) (by simp) ?_; intro gg cap2 w1 hown1 hgrow hat hlt1; have hfz1 : w1.frozen? ⟨b, 2, none⟩ = false := (hgrow.frozen_far ⟨b, 2, none⟩ (by simp; omega) (Ne.symm ab)).trans (HFA.out _); have hcl1 : w1.cell? ⟨b, 2, none⟩ = some (.slice a ns.length cap) := (hgrow.cell_far ⟨b, 2, none⟩ (by simp; omega) (Ne.symm ab)).trans (hca _)))
    all_goals
      go_wp2
      go_ret
      exact ⟨rfl, add_fin HRW.out HKW.out hown1 (by simp [five]) hgrow hat⟩
  · have hw' : ((wy : Int) != 0) = true := by rw [bne_iff_ne]; omega
    go_enter Try.func68, Try.ntmps68
    go_wp2_with fail
    generalize hW : w.alloc (Obj.cells #[Value.int IntKind.u8 ↑sg, Value.int IntKind.u8 ↑wy, Value.int IntKind.i64 ↑li, Value.int IntKind.i64 ↑ri, Value.int IntKind.i64 ((k : Int) + 1)] 97) = W
    have HRW : Hid (Rd W b s p (.slice a ns.length cap) ns) := by show Rd _ _ _ _ _ _; rw [← hW]; exact HR.out.alloc _
    have HKW : Hid (Kp b (.slice a ns.length cap) (.slice a ns.length cap) w W) := by show Kp _ _ _ _ _; rw [← hW]; exact (Kp.refl _ _ _).alloc _
    have q0 : W.cell? ⟨w.heap.size, 0, none⟩ = some (Value.int IntKind.u8 ↑sg) := by rw [← hW]; simp
    have q1 : W.cell? ⟨w.heap.size, 1, none⟩ = some (Value.int IntKind.u8 ↑wy) := by rw [← hW]; simp
    have q2 : W.cell? ⟨w.heap.size, 2, none⟩ = some (Value.int IntKind.i64 ↑li) := by rw [← hW]; simp
    have q3 : W.cell? ⟨w.heap.size, 3, none⟩ = some (Value.int IntKind.i64 ↑ri) := by rw [← hW]; simp
    have q4 : W.cell? ⟨w.heap.size, 4, none⟩ = some (Value.int IntKind.i64 ((k : Int) + 1)) := by rw [← hW]; simp
    have hWs : w.heap.size < W.heap.size := by rw [← hW]; simp
    have d2 := HRW.out.c2
    have hca : ∀ o, (W.alloc o).cell? ⟨b, 2, none⟩ = some (.slice a ns.length cap) := fun o => (HRW.out.alloc o).c2
    have HFA : Hid (∀ o, (W.alloc o).frozen? ⟨b, 2, none⟩ = false) := fun o => (HRW.out.alloc o).fz 2 (by omega)
    have g2 := HRW.out.fz 2 (by omega)
    have hown := HRW.out.own
    have ab : (Value.slice a ns.length cap).ownBlock ≠ some b := fun e => by have := (HR.out.own.lt _ e).1; omega
    have aw : (Value.slice a ns.length cap).ownBlock ≠ some w.heap.size := fun e => by have := (HR.out.own.lt _ e).2; omega
    have HW : Hid (w.alloc (Obj.cells #[Value.int IntKind.u8 ↑sg, Value.int IntKind.u8 ↑wy, Value.int IntKind.i64 ↑li, Value.int IntKind.i64 ↑ri, Value.int IntKind.i64 ((k : Int) + 1)] 97) = W) := hW
    clear hW c2 f2
    go_region_law ((refine step_append_lies _ (by rfl) _ _ _ (by rfl) (b + 1) 97 i0 _ 5 32 Try.underlying62 hi0 hz0 hz1 hz2 rfl (by omega) (.slice a ns.length cap) ns.length (flatN ns) (by rfl) ((hown.alloc _).drew) ⟨W.heap.size, 0, none⟩ 1 1 [Value.int IntKind.u8 ↑sg, Value.int IntKind.u8 ↑wy, Value.int IntKind.i64 ↑li, Value.int IntKind.i64 ↑ri, Value.int IntKind.i64 ((k : Int) + 1)] (by rfl) (by rfl) (World.news_of_block (cs := #[Value.int IntKind.u8 ↑sg, Value.int IntKind.u8 ↑wy, Value.int IntKind.i64 ↑li, Value.int IntKind.i64 ↑ri, Value.int IntKind.i64 ((k : Int) + 1)]) (t := 97) (fr := (0, 0)) (heap_alloc_new W _)) (by simp [Value.oneCell']) (by omega) (by unfold maxLen; omega) (by omega) (by simp; omega) (W.heap.size + 1) (by simp) ?_; intro gg cap2 w1 hown1 hgrow hat hlt1; have hfz1 : w1.frozen? ⟨b, 2, none⟩ = false := (hgrow.frozen_far ⟨b, 2, none⟩ (by simp; omega) (Ne.symm ab)).trans (HFA.out _); have hcl1 : w1.cell? ⟨b, 2, none⟩ = some (.slice a ns.length cap) := (hgrow.cell_far ⟨b, 2, none⟩ (by simp; omega) (Ne.symm ab)).trans (hca _)))
    all_goals
      go_wp2
      go_ret
      exact ⟨rfl, add_fin HRW.out HKW.out hown1 (by simp [five]) hgrow hat⟩

end Go.Proofs.Ytkjnhhbibaimfaa
