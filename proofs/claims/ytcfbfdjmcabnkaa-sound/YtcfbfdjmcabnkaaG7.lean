import Derived.Test.YtcfbfdjmcabnkaaGK
import Derived.Test.YtcfbfdjmcabnkaaG5
namespace Go.Proofs.Ytcfbfdjmcabnkaa
open Go.RowKit Fw
open Go.Deep (BT)
set_option linter.unusedVariables false

/-- block tb is a tree of nodes, which lie in block g -/
structure Tn (w : World) (tb g cap : Nat) (ns : List Nd) : Prop where
  lt : tb < w.heap.size
  glt : g < w.heap.size
  c2 : w.cell? ⟨tb, 2, none⟩ = some (.slice (some ⟨g, 0, none⟩) ns.length cap)
  cs : ∀ i x, ns[i]? = some x → ∀ j u, (five x)[j]? = some u → w.cell? ⟨g, i * 5 + j, none⟩ = some u

theorem Tn.below {w w' : World} {tb g cap : Nat} {ns : List Nd} (h : Tn w tb g cap ns) (hb : Below w.heap.size w w') : Tn w' tb g cap ns :=
  ⟨Nat.lt_of_lt_of_le h.lt hb.size, Nat.lt_of_lt_of_le h.glt hb.size, (hb.cell (p := ⟨tb, 2, none⟩) h.lt).trans h.c2, fun i x hx j u hu => (hb.cell (p := ⟨g, i * 5 + j, none⟩) h.glt).trans (h.cs i x hx j u hu)⟩

/-- a node's cells, as a walk over nodes reads them -/
structure At5 (w : World) (tb g cap n i sg wy li ri k : Nat) : Prop where
  lt : tb < w.heap.size
  glt : g < w.heap.size
  hi : i < n
  c2 : w.cell? ⟨tb, 2, none⟩ = some (.slice (some ⟨g, 0, none⟩) n cap)
  n0 : w.cell? ⟨g, i * 5, none⟩ = some (.int .u8 (sg : Int))
  n1 : w.cell? ⟨g, i * 5 + 1, none⟩ = some (.int .u8 (wy : Int))
  n2 : w.cell? ⟨g, i * 5 + 2, none⟩ = some (.int .i64 (li : Int))
  n3 : w.cell? ⟨g, i * 5 + 3, none⟩ = some (.int .i64 (ri : Int))
  n4 : w.cell? ⟨g, i * 5 + 4, none⟩ = some (.int .i64 (k : Int))

theorem Tn.at {w : World} {tb g cap : Nat} {ns : List Nd} (h : Tn w tb g cap ns) {i sg wy li ri k : Nat} (hx : ns[i]? = some (sg, wy, li, ri, k)) : At5 w tb g cap ns.length i sg wy li ri k :=
  ⟨h.lt, h.glt, (List.getElem?_eq_some_iff.1 hx).1, h.c2, h.cs i _ hx 0 _ rfl, h.cs i _ hx 1 _ rfl, h.cs i _ hx 2 _ rfl, h.cs i _ hx 3 _ rfl, h.cs i _ hx 4 _ rfl⟩

/-- block b is a tree that is being made: v its nodes so far -/
structure Md (w : World) (b : Nat) (v : Value) (ns : List Nd) : Prop where
  lt : b < w.heap.size
  c0 : w.cell? ⟨b, 0, none⟩ = some (.int .i64 0)
  c1 : w.cell? ⟨b, 1, none⟩ = some (.int .i64 0)
  c2 : w.cell? ⟨b, 2, none⟩ = some v
  c3 : w.cell? ⟨b, 3, none⟩ = some (.int .i64 0)
  fz : ∀ o, o < 4 → w.frozen? ⟨b, o, none⟩ = false
  own : w.ownsRow (b + 1) 84 5 v ns.length (flatN ns)

theorem Md.drewN {w : World} {b : Nat} {v : Value} {ns : List Nd} (h : Md w b v ns) (n : Nat) : Md (w.drewN n) b v ns := ⟨h.lt, h.c0, h.c1, h.c2, h.c3, h.fz, h.own⟩
theorem Md.form {w : World} {b : Nat} {v : Value} {ns : List Nd} (h : Md w b v ns) : ∃ a cap, v = .slice a ns.length cap := by
  rcases h.own.2 with ⟨h1, h2⟩ | ⟨g, cap, cur, h1, _⟩
  · exact ⟨none, 0, by rw [h1, h2]⟩
  · exact ⟨_, _, h1⟩
theorem Md.alloc {w : World} {b : Nat} {v : Value} {ns : List Nd} (h : Md w b v ns) (o : Obj) : Md (w.alloc o) b v ns := by
  have hb : ∀ a : Addr, a.block = b → (w.alloc o).cell? a = w.cell? a := fun a ha => World.cell?_of_block (w := w) (Below.heap_alloc _ _ _ (by rw [ha]; exact h.lt))
  have hf : ∀ a : Addr, a.block = b → (w.alloc o).frozen? a = w.frozen? a := fun a ha => World.frozen?_of_block (w := w) (Below.heap_alloc _ _ _ (by rw [ha]; exact h.lt))
  refine ⟨by have := h.lt; simp; omega, (hb _ rfl).trans h.c0, (hb _ rfl).trans h.c1, (hb _ rfl).trans h.c2, (hb _ rfl).trans h.c3, fun o ho => (hf _ rfl).trans (h.fz o ho), h.own.alloc o⟩
theorem Md.setOther {w : World} {b : Nat} {v : Value} {ns : List Nd} (h : Md w b v ns) {H o : Nat} (u : Value) (h1 : H ≠ b) (h2 : v.ownBlock ≠ some H) : Md (w.setCell ⟨H, o, none⟩ u) b v ns := by
  refine ⟨by simpa using h.lt, ?_, ?_, ?_, ?_, ?_, own_set h.own h2 u⟩
  · rw [cell_otherY (addr_nb h1)]; exact h.c0
  · rw [cell_otherY (addr_nb h1)]; exact h.c1
  · rw [cell_otherY (addr_nb h1)]; exact h.c2
  · rw [cell_otherY (addr_nb h1)]; exact h.c3
  · intro j hj
    rw [World.frozen?_setCell]
    exact h.fz j hj

theorem madd_fin {w W w1 : World} {b gg cap2 : Nat} {v : Value} {ns : List Nd} {x : Nd} {l5 : List Value} {o : Obj} (hr : Md W b v ns) (hk : Kp b v v w W)
    (hown1 : w1.ownsRow (b + 1) 84 5 (.slice (some ⟨gg, 0, none⟩) (ns.length + 1) cap2) (ns.length + 1) (flatN ns ++ l5)) (h5 : l5 = five x)
    (hgrow : (W.alloc o).drew.grownBy w1 v.ownBlock) (hat : v.ownBlock = some gg ∨ gg = W.heap.size + 1) :
    ∃ v', Md (w1.setCell ⟨b, 2, none⟩ (.slice (some ⟨gg, 0, none⟩) (ns.length + 1) cap2)) b v' (ns ++ [x]) ∧ Kp b v v' w (w1.setCell ⟨b, 2, none⟩ (.slice (some ⟨gg, 0, none⟩) (ns.length + 1) cap2)) := by
  have hlt := hr.lt
  have ab : some b ≠ v.ownBlock := fun e => by have := (hr.own.lt _ e.symm).1; omega
  have hra := hr.alloc o
  have hsz : W.heap.size + 1 ≤ w1.heap.size := by have := hgrow.size; simpa using this
  have hks := hk.size
  have hc : ∀ j, w1.cell? ⟨b, j, none⟩ = (W.alloc o).cell? ⟨b, j, none⟩ := fun j => hgrow.cell_far ⟨b, j, none⟩ (by simp; omega) ab
  have hf : ∀ j, w1.frozen? ⟨b, j, none⟩ = (W.alloc o).frozen? ⟨b, j, none⟩ := fun j => hgrow.frozen_far ⟨b, j, none⟩ (by simp; omega) ab
  refine ⟨.slice (some ⟨gg, 0, none⟩) (ns.length + 1) cap2, ⟨by simp; omega, ?_, ?_, ?_, ?_, ?_, ?_⟩, ⟨?_, ?_, ?_, ?_, ?_, ?_⟩⟩
  · rw [cell_otherY (addr_ne3 (by omega)), hc]; exact hra.c0
  · rw [cell_otherY (addr_ne3 (by omega)), hc]; exact hra.c1
  · exact cell_sameY ((hc 2).trans hra.c2)
  · rw [cell_otherY (addr_ne3 (by omega)), hc]; exact hra.c3
  · intro j hj
    rw [World.frozen?_setCell, hf]
    exact hra.fz j hj
  · have := ownsRow_setCell_below hown1 (a := ⟨b, 2, none⟩) (by simp) (.slice (some ⟨gg, 0, none⟩) (ns.length + 1) cap2)
    rw [h5, ← flatN_snoc] at this
    simpa using this
  · exact hgrow.os.trans hk.os
  · exact hgrow.tape.trans hk.tape
  · exact hgrow.output.trans hk.output
  · simp; omega
  · intro k h1 h2 h3
    rw [Below.heap_setCell _ _ _ _ h2, hgrow.block k (by simp; omega) (fun e => h3 e.symm)]
    exact (Below.heap_alloc W o k (by omega)).trans (hk.keep k h1 h2 h3)
  · rcases hat with e | e
    · exact .inl e.symm
    · exact .inr ⟨gg, rfl, by omega⟩

set_option maxRecDepth 100000 in
set_option maxHeartbeats 3200000 in
theorem madd_any (b sg wy li ri k : Nat) (v : Value) (ns : List Nd) (w : World) (hn : ns.length ≤ 1000) (HR : Hid (Md w b v ns)) :
    Calls Try.prog 56 #[.pointer (some ⟨b, 0, none⟩), .agg #[.int .u8 (sg : Int), .int .u8 (wy : Int), .int .i64 (li : Int), .int .i64 (ri : Int), .int .i64 (k : Int)]] w fun e w' =>
      e = .returned (.int .i64 (ns.length : Int)) ∧ ∃ v', Md w' b v' (ns ++ [(sg, wy, li, ri, k)]) ∧ Kp b v v' w w' := by
  obtain ⟨i0, hi0, hz0, hz1, hz2⟩ := info_parts Try.info84
  obtain ⟨a, cap, rfl⟩ := HR.out.form
  have c2 := HR.out.c2
  have f2 := HR.out.fz 2 (by omega)
  have hlt := HR.out.lt
  go_enter Try.func56, Try.ntmps56
  go_wp2_with fail
  generalize hW : w.alloc (Obj.cells #[Value.int IntKind.u8 ↑sg, Value.int IntKind.u8 ↑wy, Value.int IntKind.i64 ↑li, Value.int IntKind.i64 ↑ri, Value.int IntKind.i64 ↑k] 84) = W
  have HRW : Hid (Md W b (.slice a ns.length cap) ns) := by show Md _ _ _ _; rw [← hW]; exact HR.out.alloc _
  have HKW : Hid (Kp b (.slice a ns.length cap) (.slice a ns.length cap) w W) := by show Kp _ _ _ _ _; rw [← hW]; exact (Kp.refl _ _ _).alloc _
  have q0 : W.cell? ⟨w.heap.size, 0, none⟩ = some (Value.int IntKind.u8 ↑sg) := by rw [← hW]; simp
  have q1 : W.cell? ⟨w.heap.size, 1, none⟩ = some (Value.int IntKind.u8 ↑wy) := by rw [← hW]; simp
  have q2 : W.cell? ⟨w.heap.size, 2, none⟩ = some (Value.int IntKind.i64 ↑li) := by rw [← hW]; simp
  have q3 : W.cell? ⟨w.heap.size, 3, none⟩ = some (Value.int IntKind.i64 ↑ri) := by rw [← hW]; simp
  have q4 : W.cell? ⟨w.heap.size, 4, none⟩ = some (Value.int IntKind.i64 ↑k) := by rw [← hW]; simp
  have hWs : w.heap.size < W.heap.size := by rw [← hW]; simp
  have d2 := HRW.out.c2
  have hca : ∀ o, (W.alloc o).cell? ⟨b, 2, none⟩ = some (.slice a ns.length cap) := fun o => (HRW.out.alloc o).c2
  have HFA : Hid (∀ o, (W.alloc o).frozen? ⟨b, 2, none⟩ = false) := fun o => (HRW.out.alloc o).fz 2 (by omega)
  have g2 := HRW.out.fz 2 (by omega)
  have hown := HRW.out.own
  have ab : (Value.slice a ns.length cap).ownBlock ≠ some b := fun e => by have := (HR.out.own.lt _ e).1; omega
  have aw : (Value.slice a ns.length cap).ownBlock ≠ some w.heap.size := fun e => by have := (HR.out.own.lt _ e).2; omega
  have HW : Hid (w.alloc (Obj.cells #[Value.int IntKind.u8 ↑sg, Value.int IntKind.u8 ↑wy, Value.int IntKind.i64 ↑li, Value.int IntKind.i64 ↑ri, Value.int IntKind.i64 ↑k] 84) = W) := hW
  clear hW c2 f2
  go_region_law ((refine step_append_lies _ (by rfl) _ _ _ (by rfl) (b + 1) 84 i0 _ 5 32 Try.underlying59 hi0 hz0 hz1 hz2 rfl (by omega) (.slice a ns.length cap) ns.length (flatN ns) (by rfl) ((hown.alloc _).drew) ⟨W.heap.size, 0, none⟩ 1 1 [Value.int IntKind.u8 ↑sg, Value.int IntKind.u8 ↑wy, Value.int IntKind.i64 ↑li, Value.int IntKind.i64 ↑ri, Value.int IntKind.i64 ↑k] (by rfl) (by rfl) (World.news_of_block (cs := #[Value.int IntKind.u8 ↑sg, Value.int IntKind.u8 ↑wy, Value.int IntKind.i64 ↑li, Value.int IntKind.i64 ↑ri, Value.int IntKind.i64 ↑k]) (t := 84) (fr := (0, 0)) (heap_alloc_new W _)) (by simp [Value.oneCell']) (by omega) (by unfold maxLen; omega) (by omega) (by simp; omega) (W.heap.size + 1) (by simp) ?_; intro gg cap2 w1 hown1 hgrow hat hlt1; have hfz1 : w1.frozen? ⟨b, 2, none⟩ = false := (hgrow.frozen_far ⟨b, 2, none⟩ (by simp; omega) (Ne.symm ab)).trans (HFA.out _); have hcl1 : w1.cell? ⟨b, 2, none⟩ = some (.slice a ns.length cap) := (hgrow.cell_far ⟨b, 2, none⟩ (by simp; omega) (Ne.symm ab)).trans (hca _)))
  all_goals
    go_wp2
    go_ret
    exact ⟨rfl, madd_fin HRW.out HKW.out hown1 (by simp [five]) hgrow hat⟩

end Go.Proofs.Ytcfbfdjmcabnkaa

namespace Go.Proofs.Ytcfbfdjmcabnkaa
open Go.RowKit Fw
open Go.Deep (BT)
set_option linter.unusedVariables false

/-- a tree, and one that is being made beside it -/
structure Pq (w : World) (tb g cap : Nat) (ns : List Nd) (mb : Nat) (v : Value) (ms : List Nd) : Prop where
  t : Tn w tb g cap ns
  m : Md w mb v ms
  s1 : tb ≠ mb
  s2 : g ≠ mb
  s3 : v.ownBlock ≠ some tb
  s4 : v.ownBlock ≠ some g

theorem Kp.cell {b : Nat} {v v' : Value} {w w' : World} (h : Kp b v v' w w') {k : Nat} (h1 : k < w.heap.size) (h2 : k ≠ b) (h3 : v.ownBlock ≠ some k) (j : Nat) : w'.cell? ⟨k, j, none⟩ = w.cell? ⟨k, j, none⟩ :=
  World.cell?_of_block (w := w) (h.keep k h1 h2 h3)
theorem Kp.ne {b : Nat} {v v' : Value} {w w' : World} (h : Kp b v v' w w') {k : Nat} (h1 : k < w.heap.size) (h3 : v.ownBlock ≠ some k) : v'.ownBlock ≠ some k := by
  rcases h.at' with e | ⟨g, e, hg⟩
  · rw [e]; exact h3
  · rw [e]; intro e2; injection e2 with e2; omega

theorem Pq.next {w w' : World} {tb g cap mb : Nat} {ns ms ms' : List Nd} {v v' : Value} (h : Pq w tb g cap ns mb v ms) (hk : Kp mb v v' w w') (hm : Md w' mb v' ms') : Pq w' tb g cap ns mb v' ms' := by
  refine ⟨⟨Nat.lt_of_lt_of_le h.t.lt hk.size, Nat.lt_of_lt_of_le h.t.glt hk.size, ?_, ?_⟩, hm, h.s1, h.s2, hk.ne h.t.lt h.s3, hk.ne h.t.glt h.s4⟩
  · rw [hk.cell h.t.lt h.s1 h.s3]; exact h.t.c2
  · intro i x hx j u hu
    rw [hk.cell h.t.glt h.s2 h.s4]
    exact h.t.cs i x hx j u hu

theorem Pq.alloc {w : World} {tb g cap mb : Nat} {ns ms : List Nd} {v : Value} (h : Pq w tb g cap ns mb v ms) (o : Obj) : Pq (w.alloc o) tb g cap ns mb v ms :=
  ⟨h.t.below ((Below.refl _ _).alloc (Nat.le_refl _) _), h.m.alloc o, h.s1, h.s2, h.s3, h.s4⟩
theorem Pq.setOther {w : World} {tb g cap mb : Nat} {ns ms : List Nd} {v : Value} (h : Pq w tb g cap ns mb v ms) {H o : Nat} (u : Value) (h1 : H ≠ tb) (h2 : H ≠ g) (h3 : H ≠ mb) (h4 : v.ownBlock ≠ some H) : Pq (w.setCell ⟨H, o, none⟩ u) tb g cap ns mb v ms := by
  refine ⟨⟨by simpa using h.t.lt, by simpa using h.t.glt, ?_, ?_⟩, h.m.setOther u h3 h4, h.s1, h.s2, h.s3, h.s4⟩
  · rw [cell_otherY (addr_nb h1)]; exact h.t.c2
  · intro i x hx j v hv
    rw [cell_otherY (addr_nb h2)]
    exact h.t.cs i x hx j v hv

/-- an A among the ways of nodes; among the bytes of a text -/
def anyA (ms : List Nd) : Prop := ∃ x ∈ ms, x.2.1 = 65
def txtA (l : List UInt8) : Prop := ∃ c ∈ l, c.toNat = 65

/-- what pushing a node into another tree leaves -/
def PuOut (t : Fm) (neg : Bool) (mb : Nat) (v : Value) (ms : List Nd) (w : World) (e : Ending) (w' : World) : Prop :=
  ∃ (k : Nat) (v' : Value) (ms' : List Nd), e = .returned (.int .i64 (k : Int)) ∧ Md w' mb v' (ms ++ ms') ∧ Kp mb v v' w w' ∧ Rep (ms ++ ms') (pushT t neg) k ∧ ms'.length ≤ (push t neg).length ∧ (anyA ms' ↔ txtA (push t neg))

/-- what pushInto is to do with a node -/
def Gv (t : Fm) (i tb g cap : Nat) (ns : List Nd) (mb : Nat) (neg : Bool) : Prop := ∀ (W : World) (v : Value) (ms : List Nd), Hid (Pq W tb g cap ns mb v ms) → ms.length + (push t neg).length ≤ 999 →
  Calls Try.prog 39 #[.pointer (some ⟨tb, 0, none⟩), .pointer (some ⟨mb, 0, none⟩), .int .i64 (i : Int), .bool neg] W fun e w' => PuOut t neg mb v ms W e w'

theorem PuOut.unbox {t : Fm} {neg : Bool} {mb : Nat} {v : Value} {ms : List Nd} {w w' : World} {o : Obj} {e : Ending} (h : PuOut t neg mb v ms (w.alloc o) e w') : PuOut t neg mb v ms w e w' := by
  obtain ⟨k, v', ms', h1, h2, h3, h4⟩ := h
  exact ⟨k, v', ms', h1, h2, h3.unbox, h4⟩

set_option maxRecDepth 100000 in
set_option maxHeartbeats 1000000 in
theorem pi_not (t : Fm) (tb g cap mb i li ri k : Nat) (ns ms : List Nd) (neg : Bool) (v : Value) (w : World) (hm : ms.length + (push t (!neg)).length ≤ 999) (HA : Hid (At5 w tb g cap ns.length i 33 0 li ri k)) (HP : Hid (Pq w tb g cap ns mb v ms)) (HL : Hid (Gv t li tb g cap ns mb (!neg))) :
    Calls Try.prog 39 #[.pointer (some ⟨tb, 0, none⟩), .pointer (some ⟨mb, 0, none⟩), .int .i64 (i : Int), .bool neg] w fun e w' => PuOut t (!neg) mb v ms w e w' := by
  obtain ⟨lt, glt, hi, c2, n0, n1, n2, n3, n4⟩ := HA.out
  have hi2 : (i : Int) < (ns.length : Int) := by omega
  have HM : Hid (ms.length + (push t (!neg)).length ≤ 999) := hm
  clear hm
  go_enter Try.func39, Try.ntmps39
  go_wp2_with fail
  refine (HL.out _ v ms (HP.out.alloc _) HM.out).mono ?_
  intro e w1 h1
  obtain ⟨k', v', ms', rfl, h2⟩ := h1.unbox
  go_wp2_with fail
  go_ret
  exact ⟨k', v', ms', rfl, h2⟩

theorem opposite_88 (w : World) : Calls Try.prog 55 #[.int .u8 88] w fun e w' => e = .returned (.int .u8 88) ∧ w' = w := by
  go_enter Try.func55, Try.ntmps55
  go_wp2
  go_ret
  exact ⟨rfl, rfl⟩

/-- a node's box, its row not in the tree that is being made -/
theorem pi_box {w w1 : World} {mb : Nat} {v v' : Value} {ms : List Nd} {C : Array Value} {t : TypeId} (hr : Md w mb v ms) (hk : Kp mb v v' (w.alloc (.cells C t)) w1) :
    w1.heap[w.heap.size]? = some (.cells C t) ∧ v'.ownBlock ≠ some w.heap.size ∧ w.heap.size ≠ mb := by
  have h0 : v.ownBlock ≠ some w.heap.size := fun e => by have := (hr.own.lt _ e).2; omega
  have h1 := hr.lt
  refine ⟨?_, hk.ne (by simp) h0, by omega⟩
  rw [hk.keep w.heap.size (by simp) (by omega) h0]
  exact heap_alloc_new w _

theorem Rep.newT {ns : List Nd} {sg wy li ri k : Nat} {l r : Fm} (hl : Rep ns l li) (hr : Rep ns r ri) (hk : k = nst (.node sg wy () l r)) :
    Rep (ns ++ [(sg, wy, li, ri, k)]) (.node sg wy () l r) ns.length := by
  refine ⟨li, ri, ?_, hl.more _, hr.more _⟩
  rw [List.getElem?_append_right (Nat.le_refl _)]
  simp [hk]

/-- a node's box -/
structure Nbx (w : World) (H : Nat) (x0 x1 x2 x3 x4 : Value) : Prop where
  lt : H < w.heap.size
  c0 : w.cell? ⟨H, 0, none⟩ = some x0
  c1 : w.cell? ⟨H, 1, none⟩ = some x1
  c2 : w.cell? ⟨H, 2, none⟩ = some x2
  c3 : w.cell? ⟨H, 3, none⟩ = some x3
  c4 : w.cell? ⟨H, 4, none⟩ = some x4
  z : ∀ o, o < 5 → w.frozen? ⟨H, o, none⟩ = false

theorem nbx_new {w : World} {H : Nat} {x0 x1 x2 x3 x4 : Value} {t : TypeId} (hlt : H < w.heap.size) (h : w.heap[H]? = some (.cells #[x0, x1, x2, x3, x4] t)) : Nbx w H x0 x1 x2 x3 x4 := by
  refine ⟨hlt, ?_, ?_, ?_, ?_, ?_, fun o ho => frozen_of_row _ _ _ _ _ h⟩
  all_goals rw [cell_of_row _ _ _ _ _ _ h]; rfl
theorem Nbx.kp {w w' : World} {H mb : Nat} {x0 x1 x2 x3 x4 v v' : Value} (h : Nbx w H x0 x1 x2 x3 x4) (hk : Kp mb v v' w w') (h1 : H ≠ mb) (h2 : v.ownBlock ≠ some H) : Nbx w' H x0 x1 x2 x3 x4 :=
  ⟨Nat.lt_of_lt_of_le h.lt hk.size, (hk.cell h.lt h1 h2 0).trans h.c0, (hk.cell h.lt h1 h2 1).trans h.c1, (hk.cell h.lt h1 h2 2).trans h.c2, (hk.cell h.lt h1 h2 3).trans h.c3, (hk.cell h.lt h1 h2 4).trans h.c4,
    fun o ho => (World.frozen?_of_block (w := w) (hk.keep H h.lt h1 h2)).trans (h.z o ho)⟩
theorem Nbx.drewN {w : World} {H : Nat} {x0 x1 x2 x3 x4 : Value} (h : Nbx w H x0 x1 x2 x3 x4) (n : Nat) : Nbx (w.drewN n) H x0 x1 x2 x3 x4 := ⟨h.lt, h.c0, h.c1, h.c2, h.c3, h.c4, h.z⟩
theorem Nbx.set2 {w : World} {H : Nat} {x0 x1 x2 x3 x4 : Value} (h : Nbx w H x0 x1 x2 x3 x4) (u : Value) : Nbx (w.setCell ⟨H, 2, none⟩ u) H x0 x1 u x3 x4 := by
  refine ⟨by simpa using h.lt, ?_, ?_, cell_sameY h.c2, ?_, ?_, fun o ho => by rw [World.frozen?_setCell]; exact h.z o ho⟩
  · rw [cell_otherY (addr_ne3 (by omega))]; exact h.c0
  · rw [cell_otherY (addr_ne3 (by omega))]; exact h.c1
  · rw [cell_otherY (addr_ne3 (by omega))]; exact h.c3
  · rw [cell_otherY (addr_ne3 (by omega))]; exact h.c4

set_option maxRecDepth 100000 in
set_option maxHeartbeats 1000000 in
theorem pi_x (t : Fm) (tb g cap mb i wy li ri k : Nat) (ns ms : List Nd) (neg : Bool) (v : Value) (w : World) (hwy : isSg wy) (hm : ms.length + (push t neg).length ≤ 999) (HA : Hid (At5 w tb g cap ns.length i 88 wy li ri k)) (HP : Hid (Pq w tb g cap ns mb v ms)) (HL : Hid (Gv t li tb g cap ns mb neg)) :
    Calls Try.prog 39 #[.pointer (some ⟨tb, 0, none⟩), .pointer (some ⟨mb, 0, none⟩), .int .i64 (i : Int), .bool neg] w fun e w' =>
      ∃ (p : Nat) (v' : Value) (ms' : List Nd), e = .returned (.int .i64 ((ms ++ ms').length : Int)) ∧ Md w' mb v' ((ms ++ ms') ++ [(88, tn neg wy, p, ri, k)]) ∧ Kp mb v v' w w' ∧ Rep (ms ++ ms') (pushT t neg) p ∧ ms'.length ≤ (push t neg).length ∧ (anyA ms' ↔ txtA (push t neg)) := by
  obtain ⟨lt, glt, hi, c2, n0, n1, n2, n3, n4⟩ := HA.out
  have hi2 : (i : Int) < (ns.length : Int) := by omega
  have HM : Hid (ms.length + (push t neg).length ≤ 999) := hm
  have HW : Hid (isSg wy) := hwy
  clear hm hwy
  cases neg with
  | false =>
    go_enter Try.func39, Try.ntmps39
    go_wp2_with fail
    refine (HL.out _ v ms (HP.out.alloc _) (by have := HM.out; omega)).mono ?_
    rintro e w1 ⟨p, v', ms', rfl, hmd, hkp, x1, x2, x3⟩
    obtain ⟨hbox, hvH, hHm⟩ := pi_box HP.out.m hkp
    obtain ⟨bl, k0, k1, k2, k3, k4, kz⟩ := nbx_new (by have := hkp.size; simp at this; omega) hbox
    have z2 := kz 2 (by omega)
    have HKP : Hid (Kp mb v v' w w1) := hkp.unbox
    have HMD : Hid (Md w1 mb v' (ms ++ ms')) := hmd
    have HH : Hid (v'.ownBlock ≠ some w.heap.size ∧ w.heap.size ≠ mb) := ⟨hvH, hHm⟩
    have hml : (ms ++ ms').length ≤ 1000 := by have := HM.out; rw [List.length_append]; omega
    have HX : Hid (Rep (ms ++ ms') (pushT t false) p ∧ ms'.length ≤ (push t false).length ∧ (anyA ms' ↔ txtA (push t false))) := ⟨x1, x2, x3⟩
    obtain ⟨qs, hqs⟩ : ∃ qs, qs = ms ++ ms' := ⟨_, rfl⟩
    have HQ : Hid (qs = ms ++ ms') := hqs
    rw [← hqs] at HMD hml
    clear hbox hvH hHm hkp hmd x1 x2 x3 kz hqs
    go_wp2_with fail
    refine (madd_any mb 88 wy p ri k v' qs _ hml (HMD.out.setOther _ HH.out.2 HH.out.1)).mono ?_
    rintro e w2 ⟨rfl, v2, hmd2, hkp2⟩
    have HKP2 : Hid (Kp mb v v2 w w2) := (HKP.out.setNew _ (Nat.le_refl _)).trans hkp2
    have HMD2 : Hid (Md w2 mb v2 (qs ++ [(88, wy, p, ri, k)])) := hmd2
    clear hmd2 hkp2
    go_wp2_with fail
    go_ret
    refine ⟨p, v2, ms', ?_, ?_, HKP2.out, HX.out.1, HX.out.2.1, HX.out.2.2⟩
    · rw [← HQ.out]; rfl
    · rw [← HQ.out]; exact HMD2.out
  | true =>
    go_enter Try.func39, Try.ntmps39
    go_wp2_with fail
    refine (HL.out _ v ms (HP.out.alloc _) (by have := HM.out; omega)).mono ?_
    rintro e w1 ⟨p, v', ms', rfl, hmd, hkp, x1, x2, x3⟩
    obtain ⟨hbox, hvH, hHm⟩ := pi_box HP.out.m hkp
    obtain ⟨bl, k0, k1, k2, k3, k4, kz⟩ := nbx_new (by have := hkp.size; simp at this; omega) hbox
    have z0 := kz 0 (by omega)
    have z1 := kz 1 (by omega)
    have z2 := kz 2 (by omega)
    have HKP : Hid (Kp mb v v' w w1) := hkp.unbox
    have HMD : Hid (Md w1 mb v' (ms ++ ms')) := hmd
    have HH : Hid (v'.ownBlock ≠ some w.heap.size ∧ w.heap.size ≠ mb) := ⟨hvH, hHm⟩
    have hml : (ms ++ ms').length ≤ 1000 := by have := HM.out; rw [List.length_append]; omega
    have HX : Hid (Rep (ms ++ ms') (pushT t true) p ∧ ms'.length ≤ (push t true).length ∧ (anyA ms' ↔ txtA (push t true))) := ⟨x1, x2, x3⟩
    obtain ⟨qs, hqs⟩ : ∃ qs, qs = ms ++ ms' := ⟨_, rfl⟩
    have HQ : Hid (qs = ms ++ ms') := hqs
    rw [← hqs] at HMD hml
    clear hbox hvH hHm hkp hmd x1 x2 x3 kz hqs
    go_wp2_with fail
    refine (opposite_88 _).mono ?_
    rintro e w2 ⟨rfl, rfl⟩
    go_wp2_with fail
    refine (opposite_any wy (.inl HW.out) _).mono ?_
    rintro e w2 ⟨rfl, rfl⟩
    go_wp2_with fail
    refine (madd_any mb 88 (opp wy) p ri k v' qs _ hml (((HMD.out.setOther _ HH.out.2 HH.out.1).setOther _ HH.out.2 HH.out.1).setOther _ HH.out.2 HH.out.1)).mono ?_
    rintro e w2 ⟨rfl, v2, hmd2, hkp2⟩
    have HKP2 : Hid (Kp mb v v2 w w2) := (((HKP.out.setNew _ (Nat.le_refl _)).setNew _ (Nat.le_refl _)).setNew _ (Nat.le_refl _)).trans hkp2
    have HMD2 : Hid (Md w2 mb v2 (qs ++ [(88, opp wy, p, ri, k)])) := hmd2
    clear hmd2 hkp2
    go_wp2_with fail
    go_ret
    refine ⟨p, v2, ms', ?_, ?_, HKP2.out, HX.out.1, HX.out.2.1, HX.out.2.2⟩
    · rw [← HQ.out]; rfl
    · rw [← HQ.out]; exact HMD2.out

end Go.Proofs.Ytcfbfdjmcabnkaa

namespace Go.Proofs.Ytcfbfdjmcabnkaa
open Go.RowKit Fw
open Go.Deep (BT)
set_option linter.unusedVariables false

/-- which of the four signs of two parts -/
def Sg2 (sg : Nat) : Prop := ((sg : Int) == 38) = true ∨ (((sg : Int) == 38) = false ∧ ((sg : Int) == 43) = true) ∨ (((sg : Int) == 38) = false ∧ ((sg : Int) == 43) = false ∧ ((sg : Int) == 85) = true) ∨ (((sg : Int) == 38) = false ∧ ((sg : Int) == 43) = false ∧ ((sg : Int) == 85) = false ∧ ((sg : Int) == 82) = true)

set_option maxRecDepth 100000 in
set_option maxHeartbeats 4000000 in
theorem pi_two (l r : Fm) (tb g cap mb i sg wy li ri k : Nat) (ns ms : List Nd) (neg : Bool) (v : Value) (w : World) (hsg : isSg sg) (hwy : isSg wy ∨ wy = 0) (b33 : ((sg : Int) == 33) = false) (b88 : ((sg : Int) == 88) = false) (hq : Sg2 sg)
    (hm : ms.length + (push l neg).length + (push r neg).length ≤ 999) (HA : Hid (At5 w tb g cap ns.length i sg wy li ri k)) (HP : Hid (Pq w tb g cap ns mb v ms)) (HL : Hid (Gv l li tb g cap ns mb neg)) (HR : Hid (Gv r ri tb g cap ns mb neg)) :
    Calls Try.prog 39 #[.pointer (some ⟨tb, 0, none⟩), .pointer (some ⟨mb, 0, none⟩), .int .i64 (i : Int), .bool neg] w fun e w' =>
      ∃ (p q : Nat) (v' : Value) (ms' ms'' : List Nd), e = .returned (.int .i64 (((ms ++ ms') ++ ms'').length : Int)) ∧ Md w' mb v' (((ms ++ ms') ++ ms'') ++ [(tn neg sg, tn neg wy, p, q, k)]) ∧ Kp mb v v' w w' ∧ Rep (ms ++ ms') (pushT l neg) p ∧ Rep ((ms ++ ms') ++ ms'') (pushT r neg) q ∧
        ms'.length ≤ (push l neg).length ∧ ms''.length ≤ (push r neg).length ∧ (anyA ms' ↔ txtA (push l neg)) ∧ (anyA ms'' ↔ txtA (push r neg)) := by
  obtain ⟨lt, glt, hi, c2, n0, n1, n2, n3, n4⟩ := HA.out
  have hi2 : (i : Int) < (ns.length : Int) := by omega
  have HM : Hid (ms.length + (push l neg).length + (push r neg).length ≤ 999) := hm
  have HS : Hid (isSg sg) := hsg
  have HW : Hid (isSg wy ∨ wy = 0) := hwy
  clear hm hwy hsg
  cases neg with
  | false =>
    rcases hq with hq | ⟨hq, hq2⟩ | ⟨hq, hq2, hq3⟩ | ⟨hq, hq2, hq3, hq4⟩
    all_goals
      go_enter Try.func39, Try.ntmps39
      go_wp2_with fail
      refine (HL.out _ v ms (HP.out.alloc _) (by have := HM.out; omega)).mono ?_
      rintro e w1 ⟨p, v', ms', rfl, hmd, hkp, x1, x2, x3⟩
      obtain ⟨hbox, hvH, hHm⟩ := pi_box HP.out.m hkp
      have hbx := nbx_new (by have := hkp.size; simp at this; omega) hbox
      have hpq := (HP.out.alloc _).next hkp hmd
      have HKP : Hid (Kp mb v v' w w1) := hkp.unbox
      have hHt : w.heap.size ≠ tb := by omega
      have hHg : w.heap.size ≠ g := by omega
      have HPQ : Hid (∀ u, Pq (w1.setCell ⟨w.heap.size, 2, none⟩ u) tb g cap ns mb v' (ms ++ ms')) := fun u => hpq.setOther u hHt hHg hHm hvH
      have HBX : Hid (∀ u, Nbx (w1.setCell ⟨w.heap.size, 2, none⟩ u) w.heap.size (.int .u8 (sg : Int)) (.int .u8 (wy : Int)) u (.int .i64 (ri : Int)) (.int .i64 (k : Int))) := fun u => hbx.set2 u
      have k2 := hbx.c2
      have k3 := hbx.c3
      have z2 := hbx.z 2 (by omega)
      have HH : Hid (v'.ownBlock ≠ some w.heap.size ∧ w.heap.size ≠ mb) := ⟨hvH, hHm⟩
      have HX : Hid (Rep (ms ++ ms') (pushT l false) p ∧ ms'.length ≤ (push l false).length ∧ (anyA ms' ↔ txtA (push l false))) := ⟨x1, x2, x3⟩
      clear hbox hvH hHm hkp hmd x1 x2 x3 hbx hpq
      go_wp2_with fail
      refine (HR.out _ v' (ms ++ ms') (HPQ.out _) (by have := HM.out; have := HX.out.2.1; rw [List.length_append]; omega)).mono ?_
      rintro e w2 ⟨q, v2, ms'', rfl, hmd, hkp, x1, x2, x3⟩
      obtain ⟨bl, k0, k1, k2, k3, k4, kz⟩ := (HBX.out _).kp hkp HH.out.2 HH.out.1
      have z3 := kz 3 (by omega)
      have HKP2 : Hid (Kp mb v v2 w w2) := (HKP.out.setNew _ (Nat.le_refl _)).trans hkp
      have HH2 : Hid (v2.ownBlock ≠ some w.heap.size) := hkp.ne (HBX.out _).lt HH.out.1
      have hml : ((ms ++ ms') ++ ms'').length ≤ 1000 := by have := HM.out; have := HX.out.2.1; rw [List.length_append, List.length_append]; omega
      have HX2 : Hid (Rep ((ms ++ ms') ++ ms'') (pushT r false) q ∧ ms''.length ≤ (push r false).length ∧ (anyA ms'' ↔ txtA (push r false))) := ⟨x1, x2, x3⟩
      obtain ⟨qs, hqs⟩ : ∃ qs, qs = (ms ++ ms') ++ ms'' := ⟨_, rfl⟩
      have HQ : Hid (qs = (ms ++ ms') ++ ms'') := hqs
      rw [← hqs] at hmd hml
      have HMD : Hid (Md w2 mb v2 qs) := hmd
      clear hmd hkp x1 x2 x3 kz hqs
      go_wp2_with fail
      refine (madd_any mb sg wy p q k v2 qs _ hml (HMD.out.setOther _ HH.out.2 HH2.out)).mono ?_
      rintro e w3 ⟨rfl, v3, hmd3, hkp3⟩
      have HKP3 : Hid (Kp mb v v3 w w3) := (HKP2.out.setNew _ (Nat.le_refl _)).trans hkp3
      have HMD3 : Hid (Md w3 mb v3 (qs ++ [(sg, wy, p, q, k)])) := hmd3
      clear hmd3 hkp3
      go_wp2_with fail
      go_ret
      refine ⟨p, q, v3, ms', ms'', ?_, ?_, HKP3.out, HX.out.1, HX2.out.1, HX.out.2.1, HX2.out.2.1, HX.out.2.2, HX2.out.2.2⟩
      · rw [← HQ.out]; rfl
      · rw [← HQ.out]; exact HMD3.out
  | true =>
    rcases hq with hq | ⟨hq, hq2⟩ | ⟨hq, hq2, hq3⟩ | ⟨hq, hq2, hq3, hq4⟩
    all_goals
      go_enter Try.func39, Try.ntmps39
      go_wp2_with fail
      refine (HL.out _ v ms (HP.out.alloc _) (by have := HM.out; omega)).mono ?_
      rintro e w1 ⟨p, v', ms', rfl, hmd, hkp, x1, x2, x3⟩
      obtain ⟨hbox, hvH, hHm⟩ := pi_box HP.out.m hkp
      have hbx := nbx_new (by have := hkp.size; simp at this; omega) hbox
      have hpq := (HP.out.alloc _).next hkp hmd
      have HKP : Hid (Kp mb v v' w w1) := hkp.unbox
      have hHt : w.heap.size ≠ tb := by omega
      have hHg : w.heap.size ≠ g := by omega
      have HPQ : Hid (∀ u, Pq (w1.setCell ⟨w.heap.size, 2, none⟩ u) tb g cap ns mb v' (ms ++ ms')) := fun u => hpq.setOther u hHt hHg hHm hvH
      have HBX : Hid (∀ u, Nbx (w1.setCell ⟨w.heap.size, 2, none⟩ u) w.heap.size (.int .u8 (sg : Int)) (.int .u8 (wy : Int)) u (.int .i64 (ri : Int)) (.int .i64 (k : Int))) := fun u => hbx.set2 u
      have k2 := hbx.c2
      have k3 := hbx.c3
      have z2 := hbx.z 2 (by omega)
      have HH : Hid (v'.ownBlock ≠ some w.heap.size ∧ w.heap.size ≠ mb) := ⟨hvH, hHm⟩
      have HX : Hid (Rep (ms ++ ms') (pushT l true) p ∧ ms'.length ≤ (push l true).length ∧ (anyA ms' ↔ txtA (push l true))) := ⟨x1, x2, x3⟩
      clear hbox hvH hHm hkp hmd x1 x2 x3 hbx hpq
      go_wp2_with fail
      refine (HR.out _ v' (ms ++ ms') (HPQ.out _) (by have := HM.out; have := HX.out.2.1; rw [List.length_append]; omega)).mono ?_
      rintro e w2 ⟨q, v2, ms'', rfl, hmd, hkp, x1, x2, x3⟩
      obtain ⟨bl, k0, k1, k2, k3, k4, kz⟩ := (HBX.out _).kp hkp HH.out.2 HH.out.1
      have z0 := kz 0 (by omega)
      have z1 := kz 1 (by omega)
      have z3 := kz 3 (by omega)
      have HKP2 : Hid (Kp mb v v2 w w2) := (HKP.out.setNew _ (Nat.le_refl _)).trans hkp
      have HH2 : Hid (v2.ownBlock ≠ some w.heap.size) := hkp.ne (HBX.out _).lt HH.out.1
      have hml : ((ms ++ ms') ++ ms'').length ≤ 1000 := by have := HM.out; have := HX.out.2.1; rw [List.length_append, List.length_append]; omega
      have HX2 : Hid (Rep ((ms ++ ms') ++ ms'') (pushT r true) q ∧ ms''.length ≤ (push r true).length ∧ (anyA ms'' ↔ txtA (push r true))) := ⟨x1, x2, x3⟩
      obtain ⟨qs, hqs⟩ : ∃ qs, qs = (ms ++ ms') ++ ms'' := ⟨_, rfl⟩
      have HQ : Hid (qs = (ms ++ ms') ++ ms'') := hqs
      rw [← hqs] at hmd hml
      have HMD : Hid (Md w2 mb v2 qs) := hmd
      clear hmd hkp x1 x2 x3 kz hqs
      go_wp2_with fail
      refine (opposite_any sg (.inl HS.out) _).mono ?_
      rintro e w3 ⟨rfl, rfl⟩
      go_wp2_with fail
      refine (opposite_any wy HW.out _).mono ?_
      rintro e w3 ⟨rfl, rfl⟩
      go_wp2_with fail
      refine (madd_any mb (opp sg) (opp wy) p q k v2 qs _ hml (((HMD.out.setOther _ HH.out.2 HH2.out).setOther _ HH.out.2 HH2.out).setOther _ HH.out.2 HH2.out)).mono ?_
      rintro e w3 ⟨rfl, v3, hmd3, hkp3⟩
      have HKP3 : Hid (Kp mb v v3 w w3) := (((HKP2.out.setNew _ (Nat.le_refl _)).setNew _ (Nat.le_refl _)).setNew _ (Nat.le_refl _)).trans hkp3
      have HMD3 : Hid (Md w3 mb v3 (qs ++ [(opp sg, opp wy, p, q, k)])) := hmd3
      clear hmd3 hkp3
      go_wp2_with fail
      go_ret
      refine ⟨p, q, v3, ms', ms'', ?_, ?_, HKP3.out, HX.out.1, HX2.out.1, HX.out.2.1, HX2.out.2.1, HX.out.2.2, HX2.out.2.2⟩
      · rw [← HQ.out]; rfl
      · rw [← HQ.out]; exact HMD3.out

end Go.Proofs.Ytcfbfdjmcabnkaa

namespace Go.Proofs.Ytcfbfdjmcabnkaa
open Go.RowKit Fw
open Go.Deep (BT)
set_option linter.unusedVariables false

/-- what a leaf becomes -/
def leafN (sg li ri k n : Nat) (neg : Bool) : List Nd := if neg = true then [(sg, 0, li, ri, k), (33, 0, n, 0, 0)] else [(sg, 0, li, ri, k)]
def leafI (n : Nat) (neg : Bool) : Nat := if neg = true then n + 1 else n

set_option maxRecDepth 100000 in
set_option maxHeartbeats 1000000 in
theorem leaf_any (mb sg li ri k : Nat) (ms : List Nd) (neg : Bool) (v : Value) (w : World) (hm : ms.length ≤ 998) (HR : Hid (Md w mb v ms)) :
    Calls Try.prog 54 #[.pointer (some ⟨mb, 0, none⟩), .agg #[.int .u8 (sg : Int), .int .u8 0, .int .i64 (li : Int), .int .i64 (ri : Int), .int .i64 (k : Int)], .bool neg] w fun e w' =>
      ∃ (v' : Value), e = .returned (.int .i64 (leafI ms.length neg : Int)) ∧ Md w' mb v' (ms ++ leafN sg li ri k ms.length neg) ∧ Kp mb v v' w w' := by
  have HM : Hid (ms.length ≤ 998) := hm
  clear hm
  cases neg with
  | false =>
    go_enter Try.func54, Try.ntmps54
    go_wp2_with fail
    refine (madd_any mb sg 0 li ri k v ms _ (by have := HM.out; omega) (HR.out.alloc _)).mono ?_
    rintro e w1 ⟨rfl, v1, hmd, hkp⟩
    go_wp2_with fail
    go_ret
    exact ⟨v1, rfl, hmd, hkp.unbox⟩
  | true =>
    go_enter Try.func54, Try.ntmps54
    go_wp2_with fail
    refine (madd_any mb sg 0 li ri k v ms _ (by have := HM.out; omega) (HR.out.alloc _)).mono ?_
    rintro e w1 ⟨rfl, v1, hmd, hkp⟩
    have HMD : Hid (Md w1 mb v1 (ms ++ [(sg, 0, li, ri, k)])) := hmd
    have HKP : Hid (Kp mb v v1 w w1) := hkp.unbox
    clear hmd hkp
    go_wp2_with fail
    refine (madd_any mb 33 0 ms.length 0 0 v1 _ _ (by have := HM.out; rw [List.length_append]; simp; omega) HMD).mono ?_
    rintro e w2 ⟨rfl, v2, hmd2, hkp2⟩
    go_wp2_with fail
    go_ret
    exact ⟨v2, by show _ = Ending.returned (.int .i64 ((ms.length + 1 : Nat) : Int)); simp, by show Md _ _ _ (ms ++ [(sg, 0, li, ri, k), (33, 0, ms.length, 0, 0)]); simpa using hmd2, HKP.out.trans hkp2⟩

set_option maxRecDepth 100000 in
set_option maxHeartbeats 1000000 in
theorem pi_leaf (tb g cap mb i sg li ri k : Nat) (ns ms : List Nd) (neg : Bool) (v : Value) (w : World) (hc : isAtom sg = true) (hm : ms.length ≤ 998) (HA : Hid (At5 w tb g cap ns.length i sg 0 li ri k)) (HP : Hid (Pq w tb g cap ns mb v ms)) :
    Calls Try.prog 39 #[.pointer (some ⟨tb, 0, none⟩), .pointer (some ⟨mb, 0, none⟩), .int .i64 (i : Int), .bool neg] w fun e w' =>
      ∃ (v' : Value), e = .returned (.int .i64 (leafI ms.length neg : Int)) ∧ Md w' mb v' (ms ++ leafN sg li ri k ms.length neg) ∧ Kp mb v v' w w' := by
  obtain ⟨lt, glt, hi, c2, n0, n1, n2, n3, n4⟩ := HA.out
  have hi2 : (i : Int) < (ns.length : Int) := by omega
  have HM : Hid (ms.length ≤ 998) := hm
  simp only [isAtom, decide_eq_true_eq] at hc
  have b33 : ((sg : Int) == 33) = false := by rw [beq_eq_false_iff_ne]; omega
  have b38 : ((sg : Int) == 38) = false := by rw [beq_eq_false_iff_ne]; omega
  have b43 : ((sg : Int) == 43) = false := by rw [beq_eq_false_iff_ne]; omega
  have b88 : ((sg : Int) == 88) = false := by rw [beq_eq_false_iff_ne]; omega
  have b85 : ((sg : Int) == 85) = false := by rw [beq_eq_false_iff_ne]; omega
  have b82 : ((sg : Int) == 82) = false := by rw [beq_eq_false_iff_ne]; omega
  clear hm hc
  go_enter Try.func39, Try.ntmps39
  go_wp2_with fail
  refine (leaf_any mb sg li ri k ms neg v _ HM.out (HP.out.m.alloc _)).mono ?_
  rintro e w1 ⟨v', rfl, h2, h3⟩
  have HX : Hid (Md w1 mb v' (ms ++ leafN sg li ri k ms.length neg) ∧ Kp mb v v' w w1) := ⟨h2, h3.unbox⟩
  clear h2 h3
  go_wp2_with fail
  go_ret
  exact ⟨v', rfl, HX.out⟩

end Go.Proofs.Ytcfbfdjmcabnkaa

namespace Go.Proofs.Ytcfbfdjmcabnkaa
open Go.RowKit Fw
open Go.Deep (BT)
set_option linter.unusedVariables false

theorem txtA_cons {c : UInt8} {l : List UInt8} : txtA (c :: l) ↔ c.toNat = 65 ∨ txtA l := by simp [txtA]
theorem txtA_app {a b : List UInt8} : txtA (a ++ b) ↔ txtA a ∨ txtA b := by
  unfold txtA
  constructor
  · rintro ⟨c, hc, h⟩
    rcases List.mem_append.1 hc with hc | hc
    · exact .inl ⟨c, hc, h⟩
    · exact .inr ⟨c, hc, h⟩
  · rintro (⟨c, hc, h⟩ | ⟨c, hc, h⟩)
    · exact ⟨c, List.mem_append_left _ hc, h⟩
    · exact ⟨c, List.mem_append_right _ hc, h⟩
theorem txtA_nil : ¬ txtA [] := by simp [txtA]
theorem anyA_app {a b : List Nd} : anyA (a ++ b) ↔ anyA a ∨ anyA b := by
  unfold anyA
  constructor
  · rintro ⟨c, hc, h⟩
    rcases List.mem_append.1 hc with hc | hc
    · exact .inl ⟨c, hc, h⟩
    · exact .inr ⟨c, hc, h⟩
  · rintro (⟨c, hc, h⟩ | ⟨c, hc, h⟩)
    · exact ⟨c, List.mem_append_left _ hc, h⟩
    · exact ⟨c, List.mem_append_right _ hc, h⟩
theorem anyA_one {sg wy li ri k : Nat} : anyA [(sg, wy, li, ri, k)] ↔ wy = 65 := by simp [anyA]

theorem sg2_of {sg : Nat} (h : sg = 38 ∨ sg = 43 ∨ sg = 85 ∨ sg = 82) : ((sg : Int) == 33) = false ∧ ((sg : Int) == 88) = false ∧ Sg2 sg := by
  unfold Sg2
  rcases h with rfl | rfl | rfl | rfl <;> decide

theorem tn_zero (neg : Bool) : tn neg 0 = 0 := by cases neg <;> rfl

theorem pi_any : ∀ (t : Fm), good t → ∀ (i tb g cap : Nat) (ns : List Nd) (mb : Nat) (neg : Bool), Rep ns t i → Gv t i tb g cap ns mb neg := by
  intro t
  induction t with
  | nil => intro h; exact absurd h (by simp [good])
  | node sg wy u l r ihl ihr =>
    intro h i tb g cap ns mb neg hrep W v ms HPQ hm
    cases u
    obtain ⟨li, ri, hnd, hl, hr⟩ := hrep
    have hat := HPQ.out.t.at hnd
    clear hnd
    rcases good_cases h with ⟨c, e, hc, hT⟩ | ⟨x, e, hx, hT⟩ | ⟨s, x, y, e, hs, hx, hy, hT⟩ | ⟨z, x, e, hv, hx, hT⟩ | ⟨s, z, x, y, e, hs, hv, hx, hy, hT⟩
    · injection e with e3 e0 _ e1 e2
      subst e3 e0 e1 e2
      have hc' := hc
      simp only [isAtom, decide_eq_true_eq] at hc'
      have hz : nst (BT.node sg 0 () BT.nil BT.nil) = 0 := rfl
      rw [push_atom hc] at hm
      refine (pi_leaf tb g cap mb i sg li ri _ ns ms neg v W hc (by cases neg <;> simp at hm <;> omega) hat HPQ).mono ?_
      rintro e w' ⟨v', rfl, h1, h2⟩
      rw [hz] at h1
      refine ⟨_, v', _, rfl, h1, h2, ?_, ?_, ?_⟩
      · rw [pushT_atom hc]
        cases neg with
        | true =>
          rw [if_pos rfl]
          refine ⟨ms.length, 0, ?_, ⟨li, ri, ?_, trivial, trivial⟩, trivial⟩
          · show (ms ++ [(sg, 0, li, ri, 0), (33, 0, ms.length, 0, 0)])[ms.length + 1]? = _
            rw [List.getElem?_append_right (by omega)]
            simp [nst]
          · show (ms ++ [(sg, 0, li, ri, 0), (33, 0, ms.length, 0, 0)])[ms.length]? = _
            rw [List.getElem?_append_right (by omega)]
            simp [nst]
        | false =>
          rw [if_neg (by simp)]
          refine ⟨li, ri, ?_, trivial, trivial⟩
          show (ms ++ [(sg, 0, li, ri, 0)])[ms.length]? = _
          rw [List.getElem?_append_right (by omega)]
          simp [nst]
      · rw [push_atom hc]; cases neg <;> simp [leafN]
      · rw [push_atom hc]
        have hb : (b8 sg).toNat = sg := b8_nat (by omega)
        cases neg with
        | true => simp [leafN, anyA, txtA, hb]; omega
        | false => simp [leafN, anyA, txtA, hb]; omega
    · injection e with e3 e0 _ e1 e2
      subst e3 e0 e1 e2
      rw [push_not] at hm
      refine (pi_not l tb g cap mb i li ri _ ns ms neg v W hm hat HPQ (ihl hx li tb g cap ns mb (!neg) hl)).mono ?_
      intro e w' h1
      unfold PuOut
      rw [push_not, pushT_not]
      exact h1
    · injection e with e3 e0 _ e1 e2
      subst e3 e0 e1 e2
      have hp := push_bin (neg := neg) hs (l := l) (r := r) (wy := 0)
      rw [hp] at hm
      simp only [List.length_cons, List.length_append, List.length_nil] at hm
      obtain ⟨f1, f2, f3⟩ := sg2_of (sg := sg) (by omega)
      refine (pi_two l r tb g cap mb i sg 0 li ri _ ns ms neg v W (by unfold isSg; omega) (.inr rfl) f1 f2 f3 (by omega) hat HPQ (ihl hx li tb g cap ns mb neg hl) (ihr hy ri tb g cap ns mb neg hr)).mono ?_
      rintro e w' ⟨p, q, v', ms', ms'', rfl, h1, h2, h3, h4, h5, h6, h7, h8⟩
      have hsg := tn_bin hs neg
      have hb : (b8 (tn neg sg)).toNat = tn neg sg := b8_nat (by omega)
      refine ⟨_, v', ms' ++ ms'' ++ [(tn neg sg, tn neg 0, p, q, nst (.node sg 0 () l r))], rfl, by simpa using h1, h2, ?_, ?_, ?_⟩
      · rw [pushT_bin hs]
        have := Rep.newT (sg := tn neg sg) (wy := 0) (k := nst (.node sg 0 () l r)) (h3.more ms'') h4 (by simp [nst, (pushT_is l hx neg).2.2, (pushT_is r hy neg).2.2])
        rw [tn_zero]
        simpa using this
      · rw [hp]; simp; omega
      · rw [hp, anyA_app, anyA_app, h7, h8, anyA_one, tn_zero, txtA_cons, txtA_app, txtA_cons, txtA_app, txtA_cons, hb]
        simp only [show ¬ (0 : Nat) = 65 from by omega, show ¬ (40 : UInt8).toNat = 65 from by decide, show ¬ (41 : UInt8).toNat = 65 from by decide, txtA_nil, false_or, or_false]
        constructor
        · rintro (h | h)
          · exact .inl h
          · exact .inr (.inr h)
        · rintro (h | h | h)
          · exact .inl h
          · omega
          · exact .inr h
    · injection e with e3 e0 _ e1 e2
      subst e3 e0 e1 e2
      have hp := push_x (neg := neg) (l := l) (wy := wy)
      rw [hp] at hm
      simp only [List.length_cons] at hm
      refine (pi_x l tb g cap mb i wy li ri _ ns ms neg v W (by unfold isSg; omega) (by omega) hat HPQ (ihl hx li tb g cap ns mb neg hl)).mono ?_
      rintro e w' ⟨p, v', ms', rfl, h1, h2, h3, h5, h7⟩
      have hwy := tn_wy hv neg
      have hb : (b8 (tn neg wy)).toNat = tn neg wy := b8_nat (by omega)
      refine ⟨_, v', ms' ++ [(88, tn neg wy, p, ri, nst (.node 88 wy () l .nil))], rfl, by simpa using h1, h2, ?_, ?_, ?_⟩
      · rw [pushT_x]
        have := Rep.newT (sg := 88) (wy := tn neg wy) (k := nst (.node 88 wy () l .nil)) (r := .nil) (ri := ri) h3 trivial (by simp only [nst, (pushT_is l hx neg).2.2]; rw [if_neg (by omega), if_neg (by omega)])
        simpa using this
      · rw [hp]; simp; omega
      · rw [hp, anyA_app, h7, anyA_one, txtA_cons, txtA_cons, hb]
        simp only [show ¬ (88 : UInt8).toNat = 65 from by decide, false_or]
        exact Or.comm
    · injection e with e3 e0 _ e1 e2
      subst e3 e0 e1 e2
      have hp := push_way (neg := neg) hs (l := l) (r := r) (wy := wy)
      rw [hp] at hm
      simp only [List.length_cons, List.length_append, List.length_nil] at hm
      obtain ⟨f1, f2, f3⟩ := sg2_of (sg := sg) (by omega)
      refine (pi_two l r tb g cap mb i sg wy li ri _ ns ms neg v W (by unfold isSg; omega) (.inl (by unfold isSg; omega)) f1 f2 f3 (by omega) hat HPQ (ihl hx li tb g cap ns mb neg hl) (ihr hy ri tb g cap ns mb neg hr)).mono ?_
      rintro e w' ⟨p, q, v', ms', ms'', rfl, h1, h2, h3, h4, h5, h6, h7, h8⟩
      have hsg := tn_ur hs neg
      have hwy := tn_wy hv neg
      have hb : (b8 (tn neg sg)).toNat = tn neg sg := b8_nat (by omega)
      have hb2 : (b8 (tn neg wy)).toNat = tn neg wy := b8_nat (by omega)
      refine ⟨_, v', ms' ++ ms'' ++ [(tn neg sg, tn neg wy, p, q, nst (.node sg wy () l r))], rfl, by simpa using h1, h2, ?_, ?_, ?_⟩
      · rw [pushT_way hs]
        have := Rep.newT (sg := tn neg sg) (wy := tn neg wy) (k := nst (.node sg wy () l r)) (h3.more ms'') h4 (by simp only [nst, (pushT_is l hx neg).2.2, (pushT_is r hy neg).2.2]; rw [if_neg (by omega), if_neg (by omega)])
        simpa using this
      · rw [hp]; simp; omega
      · rw [hp, anyA_app, anyA_app, h7, h8, anyA_one, txtA_cons, txtA_cons, txtA_app, txtA_cons, txtA_app, txtA_cons, hb, hb2]
        simp only [show ¬ (91 : UInt8).toNat = 65 from by decide, show ¬ (93 : UInt8).toNat = 65 from by decide, txtA_nil, false_or, or_false]
        constructor
        · rintro ((h | h) | h)
          · exact .inr (.inl h)
          · exact .inr (.inr (.inr h))
          · exact .inl h
        · rintro (h | h | h | h)
          · exact .inr h
          · exact .inl (.inl h)
          · omega
          · exact .inl (.inr h)

end Go.Proofs.Ytcfbfdjmcabnkaa

