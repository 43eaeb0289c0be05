import Derived.Test.YtkjnhhbibaimfaaWa
import Derived.Test.YtkjnhhbibaimfaaTree
import Derived.Deep.AppendLies
import Derived.Deep.RegionHeld3
import Derived.BigQuiet
namespace Go.Proofs.Ytkjnhhbibaimfaa
open Go.RowKit Fw
open Go.Deep (BT)
set_option linter.unusedVariables false

/-- a node: sign, ways, the parts' numbers, nest -/
abbrev Nd := Nat × Nat × Nat × Nat × Nat
def five (x : Nd) : List Value := [.int .u8 (x.1 : Int), .int .u8 (x.2.1 : Int), .int .i64 (x.2.2.1 : Int), .int .i64 (x.2.2.2.1 : Int), .int .i64 (x.2.2.2.2 : Int)]
def flatN (ns : List Nd) : List Value := ns.flatMap five

theorem flatN_snoc (ns : List Nd) (x : Nd) : flatN (ns ++ [x]) = flatN ns ++ five x := by simp [flatN]

theorem flatN_get (x : Nd) : ∀ (ns : List Nd) (i j : Nat), ns[i]? = some x → j < 5 → (flatN ns)[i * 5 + j]? = (five x)[j]? := by
  intro ns
  induction ns with
  | nil => intro i j h; simp at h
  | cons y r ih =>
    intro i j h hj
    cases i with
    | zero =>
      simp at h
      subst h
      show (five y ++ flatN r)[0 * 5 + j]? = _
      rw [List.getElem?_append_left (by simp [five]; omega)]
      simp
    | succ i =>
      have h' := ih i j (by simpa using h) hj
      show (five y ++ flatN r)[(i + 1) * 5 + j]? = _
      rw [List.getElem?_append_right (by simp [five]; omega)]
      rw [show (i + 1) * 5 + j - (five y).length = i * 5 + j from by simp [five]; omega]
      exact h'

/-- block b is a reader at place p, v the nodes so far -/
structure Rd (w : World) (b : Nat) (s : ByteArray) (p : Nat) (v : Value) (ns : List Nd) : Prop where
  lt : b < w.heap.size
  c0 : w.cell? ⟨b, 0, none⟩ = some (.string s)
  c1 : w.cell? ⟨b, 1, none⟩ = some (.int .i64 (p : Int))
  c2 : w.cell? ⟨b, 2, none⟩ = some v
  fz : ∀ o, o < 3 → w.frozen? ⟨b, o, none⟩ = false
  own : w.ownsRow (b + 1) 97 5 v ns.length (flatN ns)

/-- of what was there, only block b and the nodes' own row may have turned -/
structure Kp (b : Nat) (v v' : Value) (w w' : World) : Prop where
  os : w'.os = w.os
  tape : w'.tape = w.tape
  output : w'.output = w.output
  size : w.heap.size ≤ w'.heap.size
  keep : ∀ k, k < w.heap.size → k ≠ b → v.ownBlock ≠ some k → w'.heap[k]? = w.heap[k]?
  at' : v'.ownBlock = v.ownBlock ∨ ∃ g, v'.ownBlock = some g ∧ w.heap.size ≤ g

theorem Kp.refl (b : Nat) (v : Value) (w : World) : Kp b v v w w := ⟨rfl, rfl, rfl, Nat.le_refl _, fun _ _ _ _ => rfl, .inl rfl⟩
theorem Kp.trans {b : Nat} {v v' v'' : Value} {w w' w'' : World} (h : Kp b v v' w w') (k : Kp b v' v'' w' w'') : Kp b v v'' w w'' := by
  refine ⟨k.os.trans h.os, k.tape.trans h.tape, k.output.trans h.output, Nat.le_trans h.size k.size, ?_, ?_⟩
  · intro x hx hb hv
    have h1 := h.keep x hx hb hv
    have hv' : v'.ownBlock ≠ some x := by
      rcases h.at' with e | ⟨g, e, hg⟩
      · rw [e]; exact hv
      · rw [e]; intro e2; injection e2 with e2; omega
    rw [k.keep x (by have := h.size; omega) hb hv', h1]
  · rcases k.at' with e | ⟨g, e, hg⟩
    · rcases h.at' with e2 | ⟨g, e2, hg⟩
      · exact .inl (e.trans e2)
      · exact .inr ⟨g, e.trans e2, hg⟩
    · exact .inr ⟨g, e, by have := h.size; omega⟩
theorem Kp.drewN {b : Nat} {v v' : Value} {w w' : World} (h : Kp b v v' w w') (n : Nat) : Kp b v v' w (w'.drewN n) := ⟨h.os, h.tape, h.output, h.size, h.keep, h.at'⟩
theorem Kp.setB {b : Nat} {v v' : Value} {w w' : World} (h : Kp b v v' w w') (o : Nat) (u : Value) : Kp b v v' w (w'.setCell ⟨b, o, none⟩ u) :=
  ⟨h.os, h.tape, h.output, by simpa using h.size, fun k h1 h2 h3 => (Below.heap_setCell _ _ _ _ h2).trans (h.keep k h1 h2 h3), h.at'⟩

theorem Rd.drewN {w : World} {b p : Nat} {s : ByteArray} {v : Value} {ns : List Nd} (h : Rd w b s p v ns) (n : Nat) : Rd (w.drewN n) b s p v ns := ⟨h.lt, h.c0, h.c1, h.c2, h.fz, h.own⟩

theorem addr_ne3 {b o p : Nat} (h : o ≠ p) : (⟨b, o, none⟩ : Addr) ≠ ⟨b, p, none⟩ := by
  intro e
  injection e
  contradiction
theorem cell_otherY {w : World} {a b : Addr} {v : Value} (h : a ≠ b) : (w.setCell a v).cell? b = w.cell? b := World.cell?_setCell_other _ _ _ _ h
theorem cell_sameY {w : World} {a : Addr} {u v : Value} (h : w.cell? a = some u) : (w.setCell a v).cell? a = some v := World.cell?_setCell_same _ _ _ h

theorem Rd.move {w : World} {b p : Nat} {s : ByteArray} {v : Value} {ns : List Nd} (h : Rd w b s p v ns) : Rd (w.setCell ⟨b, 1, none⟩ (.int .i64 ((p : Int) + 1))) b s (p + 1) v ns := by
  refine ⟨by simpa using h.lt, ?_, ?_, ?_, ?_, ?_⟩
  · rw [cell_otherY (addr_ne3 (by omega))]; exact h.c0
  · rw [cell_sameY h.c1]; simp
  · rw [cell_otherY (addr_ne3 (by omega))]; exact h.c2
  · intro o ho
    rw [World.frozen?_setCell]
    exact h.fz o ho
  · exact ownsRow_setCell_below h.own (by simp) _

theorem stands_is (s : ByteArray) (p : Nat) (c : Nat) (w : World) (hs : s.size ≤ 210) (hp : p ≤ 211) (hc : c < 256) :
    Calls Try.prog 108 #[.string s, .int .i64 p, .int .u8 c] w fun e w' => e = .returned (.bool (isAt s p c)) ∧ w' = w := stands_any s p c w hs hp hc

set_option maxRecDepth 100000 in
set_option maxHeartbeats 1000000 in
theorem skip1_any (b p c : Nat) (s : ByteArray) (v : Value) (ns : List Nd) (w : World) (hs : s.size ≤ 30) (hp : p ≤ s.size) (hc : c < 256) (HR : Hid (Rd w b s p v ns)) :
    Calls Try.prog 97 #[.pointer (some ⟨b, 0, none⟩), .int .u8 (c : Int)] w fun e w' =>
      (isAt s p c = true ∧ e = .returned (.bool true) ∧ Rd w' b s (p + 1) v ns ∧ Kp b v v w w') ∨
      (isAt s p c = false ∧ e = .returned (.bool false) ∧ Rd w' b s p v ns ∧ Kp b v v w w') := by
  have c0 := HR.out.c0
  have c1 := HR.out.c1
  have f1 := HR.out.fz 1 (by omega)
  cases hA : isAt s p c with
  | true =>
    have HA : Hid (isAt s p c = true) := hA
    go_enter Try.func97, Try.ntmps97
    go_wp2_with fail
    go_quiet ((go_at_call 108; exact Calls.quiet_of_same (stands_is s p c _ (by omega) (by omega) hc)))
    go_wp2_with fail
    go_ret
    exact .inl ⟨by first | exact HA.out | trivial, rfl, (HR.out.drewN _).move, ((Kp.refl _ _ _).drewN _).setB 1 _⟩
  | false =>
    have HA : Hid (isAt s p c = false) := hA
    go_enter Try.func97, Try.ntmps97
    go_wp2_with fail
    go_quiet ((go_at_call 108; exact Calls.quiet_of_same (stands_is s p c _ (by omega) (by omega) hc)))
    go_wp2_with fail
    go_ret
    exact .inr ⟨by first | exact HA.out | trivial, rfl, HR.out.drewN _, (Kp.refl _ _ _).drewN _⟩

end Go.Proofs.Ytkjnhhbibaimfaa
