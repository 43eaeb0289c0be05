import Derived.Test.YtkjnhhbibaimfaaWg
import Derived.Laws.Tables
namespace Go.Proofs.Ytkjnhhbibaimfaa
open Go.RowKit Fw
set_option linter.unusedVariables false

def rest43 : List Value := .int .i64 0 :: (List.replicate 6 (.string ByteArray.empty) ++ List.replicate 36 (.bool false))

def cells45 (e p : Int) : Array Value := (Value.int .i64 e :: .int .i64 p :: rest43).toArray

theorem built1 : Try.prog.built 58 [(0, .int .i64 1)] = some (cells45 1 0) := by kernel_rfl
theorem built2 (p : Int) : Try.prog.built 58 [(0, .int .i64 2), (1, .int .i64 p)] = some (cells45 2 p) := by kernel_rfl
theorem built3 (p : Int) : Try.prog.built 58 [(0, .int .i64 3), (1, .int .i64 p)] = some (cells45 3 p) := by kernel_rfl
theorem rest43_one : ∀ v ∈ rest43, v.oneCell' = true := by
  intro v hv
  simp only [rest43, List.mem_cons, List.mem_append, List.mem_replicate] at hv
  rcases hv with rfl | ⟨_, rfl⟩ | ⟨_, rfl⟩ <;> rfl
theorem cells45_size (e p : Int) : (cells45 e p).size = 45 := rfl
theorem cells45_list (e p : Int) : (cells45 e p).toList = Value.int .i64 e :: .int .i64 p :: rest43 := rfl
theorem rest43_len : rest43.length = 43 := rfl

theorem build49 {ops : Array Oper} {rest : List Oper} {o : Oper} {a : Act} {w : World} {Q : Exit → Act → World → Prop} (hgd : o.guard = none) (parts : Array (Nat × Operand)) (ho : o.op = .build 58 parts)
    (vals : List (Nat × Value)) (hv : (parts.map fun (i, x) => (i, a.eval x)).toList = vals) (cells : Array Value) (hb : Try.prog.built 58 vals = some cells)
    (h : wpList Try.prog ops Q rest (a.put o.dst (.agg cells)) w) : wpList Try.prog ops Q (o :: rest) a w := by
  refine wpList_build hgd 58 parts ho (by rw [hv, hb]; rfl) ?_
  rw [hv, hb]
  exact h

theorem build49a {ops : Array Oper} {rest : List Oper} {o : Oper} {a : Act} {w : World} {Q : Exit → Act → World → Prop} (hgd : o.guard = none) (ho : o.op = .build 58 #[(0, .const (.int .i64 1))])
    (h : wpList Try.prog ops Q rest (a.put o.dst (.agg (cells45 1 0))) w) : wpList Try.prog ops Q (o :: rest) a w :=
  build49 hgd _ ho [(0, .int .i64 1)] (by simp [Act.eval]) _ built1 h

theorem build49b {ops : Array Oper} {rest : List Oper} {o : Oper} {a : Act} {w : World} {Q : Exit → Act → World → Prop} (hgd : o.guard = none) (x : Operand) (ho : o.op = .build 58 #[(0, .const (.int .i64 2)), (1, x)])
    (p : Int) (hx : a.eval x = .int .i64 p)
    (h : wpList Try.prog ops Q rest (a.put o.dst (.agg (cells45 2 p))) w) : wpList Try.prog ops Q (o :: rest) a w :=
  build49 hgd _ ho [(0, .int .i64 2), (1, .int .i64 p)] (by simp [Act.eval] at hx ⊢; exact hx) _ (built2 p) h

theorem build49c {ops : Array Oper} {rest : List Oper} {o : Oper} {a : Act} {w : World} {Q : Exit → Act → World → Prop} (hgd : o.guard = none) (x : Operand) (ho : o.op = .build 58 #[(0, .const (.int .i64 3)), (1, x)])
    (p : Int) (hx : a.eval x = .int .i64 p)
    (h : wpList Try.prog ops Q rest (a.put o.dst (.agg (cells45 3 p))) w) : wpList Try.prog ops Q (o :: rest) a w :=
  build49 hgd _ ho [(0, .int .i64 3), (1, .int .i64 p)] (by simp [Act.eval] at hx ⊢; exact hx) _ (built3 p) h

theorem size_cons43 (a b : Value) (cs : List Value) (h : cs.length = 43) : (a :: b :: cs).toArray.size = 45 := by simp [h]
theorem one_cons43 (a b : Value) (cs : List Value) (ha : a.oneCell' = true) (hb : b.oneCell' = true) (h : ∀ v ∈ cs, v.oneCell' = true) : (a :: b :: cs).toArray.all (·.oneCell') = true := by
  refine all_oneCell_toArray fun v hv => ?_
  simp only [List.mem_cons] at hv
  rcases hv with rfl | rfl | hv
  · exact ha
  · exact hb
  · exact h v hv

theorem cells45_one (e p : Int) : (cells45 e p).all (·.oneCell') = true := one_cons43 _ _ _ rfl rfl rest43_one

end Go.Proofs.Ytkjnhhbibaimfaa
