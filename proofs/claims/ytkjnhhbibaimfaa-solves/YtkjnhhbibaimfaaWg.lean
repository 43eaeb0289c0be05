import Derived.Test.YtkjnhhbibaimfaaWf
import Derived.Deep.MidRow
import Derived.BigQuiet
namespace Go.Proofs.Ytkjnhhbibaimfaa
open Go.RowKit Fw
set_option linter.unusedVariables false

theorem Try.size58 : (Try.prog.info? 58).map (·.size) = some 45 := by kernel_rfl
theorem Try.row58 : ∃ d, Try.prog.underlying 58 = some d ∧ d.isRow = true := ⟨_, Try.underlying58, rfl⟩

theorem below_setCells (b : Nat) : ∀ (vs : List Value) (o : Nat) (w : World), Below b w (w.setCells b o vs)
  | [], _, w => Below.refl _ _
  | v :: r, o, w => ((Below.refl b w).setCell (p := ⟨b, o, none⟩) (Nat.le_refl _) v).trans (below_setCells b r (o + 1) _)

theorem block_setCells (b : Nat) : ∀ (vs : List Value) (o : Nat) (w : World) (k : Nat), k ≠ b → (w.setCells b o vs).heap[k]? = w.heap[k]?
  | [], _, w, _, _ => rfl
  | v :: r, o, w, k, h => (block_setCells b r (o + 1) _ k h).trans (Below.heap_setCell _ _ _ _ h)

theorem size_setCells (b : Nat) : ∀ (vs : List Value) (o : Nat) (w : World), (w.setCells b o vs).heap.size = w.heap.size
  | [], _, w => rfl
  | v :: r, o, w => (size_setCells b r (o + 1) _).trans (by simp)

/-- a struct of 45 cells stored whole; the world behind it a letter -/
theorem store49 {ops : Array Oper} {rest : List Oper} {op : Oper} {a : Act} {w : World} {Q : Exit → Act → World → Prop} (hgd : op.guard = none) (x y : Operand) (ho : op.op = .store 58 x y)
    (b : Nat) (cells : Array Value) (hx : a.eval x = .pointer (some ⟨b, 0, none⟩)) (hy : a.eval y = .agg cells)
    (ht : w.there b 0 45) (hi : cells.size = 45) (h1 : cells.all (·.oneCell') = true)
    (h : ∀ w', Below b w w' → w'.heap.size = w.heap.size → (∀ k, k ≠ b → w'.heap[k]? = w.heap[k]?) → w'.rangeAt b 0 cells.toList → wpList Try.prog ops Q rest (a.put op.dst undef) w') : wpList Try.prog ops Q (op :: rest) a w := by
  refine wpList_store_mid hgd 58 x y ho b 0 cells hx hy (by rw [hi]; exact ht) (by rw [hi]; exact Try.size58) h1 ?_
  refine h _ (below_setCells b _ _ _) (size_setCells b _ _ _) (block_setCells b _ _ _) ?_
  exact World.rangeAt_setCells_same _ _ _ _ (by simpa [hi] using ht)

theorem load49 {ops : Array Oper} {rest : List Oper} {op : Oper} {a : Act} {w : World} {Q : Exit → Act → World → Prop} (hgd : op.guard = none) (x : Operand) (ho : op.op = .load 58 x)
    (b : Nat) (hx : a.eval x = .pointer (some ⟨b, 0, none⟩)) (cs : List Value) (hc : w.rangeAt b 0 cs) (hl : cs.length = 45)
    (h : wpList Try.prog ops Q rest (a.put op.dst (.agg cs.toArray)) w) : wpList Try.prog ops Q (op :: rest) a w := by
  obtain ⟨d, hu, hd⟩ := Try.row58
  exact wpList_load_mid hgd 58 x ho b 0 hx cs d hc hu hd (by rw [hl]; exact Try.size58) h

theorem there_new (w : World) (C : Array Value) (t : TypeId) (h : C.size = 45) : (w.alloc (.cells C t)).there w.heap.size 0 45 := by
  intro j hj
  have hb := heap_alloc_new w (.cells C t)
  refine ⟨?_, ?_⟩
  · rw [cell_of_row _ _ _ _ _ _ hb]
    simp
    omega
  · exact frozen_of_row _ _ _ _ _ hb

def zero49 : Array Value := #[.int .i64 0, .int .i64 0, .int .i64 0, .string ByteArray.empty, .string ByteArray.empty, .string ByteArray.empty, .string ByteArray.empty, .string ByteArray.empty, .string ByteArray.empty] ++ Array.replicate 36 (.bool false)

theorem zero49_is : (#[.int .i64 0, .int .i64 0, .int .i64 0, .string ByteArray.empty, .string ByteArray.empty, .string ByteArray.empty, .string ByteArray.empty, .string ByteArray.empty, .string ByteArray.empty, .bool false, .bool false, .bool false, .bool false, .bool false, .bool false, .bool false, .bool false, .bool false, .bool false, .bool false, .bool false, .bool false, .bool false, .bool false, .bool false, .bool false, .bool false, .bool false, .bool false, .bool false, .bool false, .bool false, .bool false, .bool false, .bool false, .bool false, .bool false, .bool false, .bool false, .bool false, .bool false, .bool false, .bool false, .bool false, .bool false] : Array Value) = zero49 := rfl

theorem gr_new (w : World) (s : ByteArray) : Gr (w.alloc (.cells #[.int .i64 0, .int .i64 0, .int .i64 0, .string ByteArray.empty, .string ByteArray.empty, .string ByteArray.empty, .string ByteArray.empty, .string ByteArray.empty, .string ByteArray.empty, .bool false, .bool false, .bool false, .bool false, .bool false, .bool false, .bool false, .bool false, .bool false, .bool false, .bool false, .bool false, .bool false, .bool false, .bool false, .bool false, .bool false, .bool false, .bool false, .bool false, .bool false, .bool false, .bool false, .bool false, .bool false, .bool false, .bool false, .bool false, .bool false, .bool false, .bool false, .bool false, .bool false, .bool false, .bool false, .bool false] 58)) w.heap.size 0 (mat s []) (mrk s []) := by
  rw [zero49_is]
  have hb := heap_alloc_new w (.cells zero49 58)
  refine ⟨by simp, ?_, ?_, ?_, ?_, ?_, ?_⟩
  · rw [cell_of_row _ _ _ _ _ _ hb]; rfl
  · rw [cell_of_row _ _ _ _ _ _ hb]; rfl
  · rw [cell_of_row _ _ _ _ _ _ hb]; rfl
  · intro i hi
    rw [cell_of_row _ _ _ _ _ _ hb, mrk_none (by simp)]
    have : i = 0 ∨ i = 1 ∨ i = 2 ∨ i = 3 ∨ i = 4 ∨ i = 5 := by omega
    rcases this with rfl | rfl | rfl | rfl | rfl | rfl <;> rfl
  · intro i j hi hj
    rw [cell_of_row _ _ _ _ _ _ hb]
    have h1 : mat s [] i j = false := by simp [mat]
    rw [h1]
    unfold zero49
    rw [Array.getElem?_append_right (by simp; omega), Array.getElem?_replicate]
    simp
    omega
  · intro o ho
    exact frozen_of_row _ _ _ _ _ hb

/-- the result that lies in a struct of 45 cells -/
theorem result49 (tmps : Array Value) (w : World) (b : Nat) (cs : List Value) (hp : tmps.getD 2 undef = .pointer (some ⟨b, 0, none⟩)) (hc : w.rangeAt b 0 cs) (hl : cs.length = 45) :
    (results Try.f45 tmps).run Try.prog w = .ok (.agg cs.toArray) w := by
  obtain ⟨d, hu, hd⟩ := Try.row58
  have hp' : tmps[2]?.getD undef = .pointer (some ⟨b, 0, none⟩) := by simpa using hp
  simp [results, Try.results45, hp', asAddr, run_loadVar_mid w b 0 58 cs d hc hu hd (by rw [hl]; exact Try.size58)]

end Go.Proofs.Ytkjnhhbibaimfaa
