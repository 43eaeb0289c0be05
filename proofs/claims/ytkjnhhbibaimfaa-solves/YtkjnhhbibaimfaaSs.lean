import Derived.Test.YtkjnhhbibaimfaaSr
import Derived.Test.YtkjnhhbibaimfaaWe
import Derived.Test.YtkjnhhbibaimfaaWc
import Derived.Laws.Tables
namespace Go.Proofs.Ytkjnhhbibaimfaa
open Go.RowKit Fw
set_option linter.unusedVariables false

/-- the graph of a text -/
def gphOf (s : ByteArray) : Gph where
  n := (run s 6 0).2.2.length
  e := mat s (run s 6 0).2.2
  m := fun i c => (mrk s (run s 6 0).2.2 i).data.toList.any fun d => d.toNat == c

/-- a graph in the making -/
structure Gq (w : World) (gb n : Nat) (M : Nat → Nat → Bool) (mk : Nat → ByteArray) : Prop where
  lt : gb < w.heap.size
  cn : w.cell? ⟨gb, 0, none⟩ = some (.int .i64 (n : Int))
  ce : ∀ i j, i < 6 → j < 6 → w.cell? ⟨gb, 1 + i * 6 + j, none⟩ = some (.bool (M i j))
  cm : ∀ i, i < 6 → w.cell? ⟨gb, 37 + i, none⟩ = some (.string (mk i))
  fz : ∀ o, o < 43 → w.frozen? ⟨gb, o, none⟩ = false

theorem Gq.edge {w : World} {gb n : Nat} {M : Nat → Nat → Bool} {mk : Nat → ByteArray} (h : Gq w gb n M mk) (i d : Nat) (hi : i < 6) (hd : d < 6) : Gq (w.setCell ⟨gb, 1 + i * 6 + d, none⟩ (.bool true)) gb n (fun x y => M x y || (x == i && y == d)) mk := by
  refine ⟨by simpa using h.lt, ?_, ?_, ?_, ?_⟩
  · rw [cell_otherS (addrS (by omega))]; exact h.cn
  · intro x y hx hy
    by_cases e : x = i ∧ y = d
    · obtain ⟨rfl, rfl⟩ := e
      rw [cell_sameS (h.ce x y hx hy)]
      simp
    · rw [cell_otherS (addrS (by omega)), h.ce x y hx hy]
      have : (x == i && y == d) = false := by
        rw [Bool.eq_false_iff]
        intro hc
        simp only [Bool.and_eq_true, beq_iff_eq] at hc
        exact e hc
      rw [this, Bool.or_false]
  · intro x hx
    rw [cell_otherS (addrS (by omega))]
    exact h.cm x hx
  · intro o ho
    rw [World.frozen?_setCell]
    exact h.fz o ho

theorem Gq.mark {w : World} {gb n : Nat} {M : Nat → Nat → Bool} {mk : Nat → ByteArray} (h : Gq w gb n M mk) (i : Nat) (hi : i < 6) (t : ByteArray) : Gq (w.setCell ⟨gb, 37 + i, none⟩ (.string t)) gb n M (fun x => if x = i then t else mk x) := by
  refine ⟨by simpa using h.lt, ?_, ?_, ?_, ?_⟩
  · rw [cell_otherS (addrS (by omega))]; exact h.cn
  · intro x y hx hy
    rw [cell_otherS (addrS (by omega))]
    exact h.ce x y hx hy
  · intro x hx
    by_cases e : x = i
    · subst e
      rw [cell_sameS (h.cm x hx)]
      simp
    · rw [cell_otherS (addrS (by omega)), h.cm x hx, if_neg e]
  · intro o ho
    rw [World.frozen?_setCell]
    exact h.fz o ho

theorem Gq.drew {w : World} {gb n : Nat} {M : Nat → Nat → Bool} {mk : Nat → ByteArray} (h : Gq w gb n M mk) : Gq w.drew gb n M mk := ⟨h.lt, h.cn, h.ce, h.cm, h.fz⟩
theorem Gq.congr {w : World} {gb n : Nat} {M : Nat → Nat → Bool} {mk mk' : Nat → ByteArray} (h : Gq w gb n M mk) (e : ∀ i, i < 6 → mk i = mk' i) : Gq w gb n M mk' := ⟨h.lt, h.cn, h.ce, fun i hi => by rw [← e i hi]; exact h.cm i hi, h.fz⟩

def cells43 (n : Int) : Array Value := (Value.int .i64 n :: (List.replicate 36 (.bool false) ++ List.replicate 6 (.string ByteArray.empty))).toArray
theorem built43 (n : Int) : Try.prog.built 115 [(0, .int .i64 n)] = some (cells43 n) := by kernel_rfl

theorem build71 {ops : Array Oper} {rest : List Oper} {o : Oper} {a : Act} {w : World} {Q : Exit → Act → World → Prop} (hgd : o.guard = none) (x : Operand) (ho : o.op = .build 115 #[(0, x)])
    (n : Int) (hx : a.eval x = .int .i64 n)
    (h : wpList Try.prog ops Q rest (a.put o.dst (.agg (cells43 n))) w) : wpList Try.prog ops Q (o :: rest) a w := by
  have hv : ((#[(0, x)] : Array (Nat × Operand)).map fun (i, x) => (i, a.eval x)).toList = [(0, .int .i64 n)] := by simp [hx]
  refine wpList_build hgd 115 #[(0, x)] ho (by rw [hv, built43]; rfl) ?_
  rw [hv, built43]
  exact h

theorem gq_new (w : World) (n : Nat) : Gq (w.alloc (.cells (cells43 n) 115)) w.heap.size n (fun _ _ => false) (fun _ => ByteArray.empty) := by
  have hb := heap_alloc_new w (.cells (cells43 n) 115)
  refine ⟨by simp, ?_, fun i j hi hj => ?_, fun i hi => ?_, fun o _ => frozen_of_row _ _ _ _ _ hb⟩
  · rw [cell_of_row _ _ _ _ _ _ hb]; rfl
  · rw [cell_of_row _ _ _ _ _ _ hb]
    simp only [cells43, List.getElem?_toArray]
    rw [show 1 + i * 6 + j = (i * 6 + j) + 1 from by omega, List.getElem?_cons_succ, List.getElem?_append_left (by simp; omega), List.getElem?_replicate, if_pos (by omega)]
  · rw [cell_of_row _ _ _ _ _ _ hb]
    simp only [cells43, List.getElem?_toArray]
    rw [show 37 + i = (36 + i) + 1 from by omega, List.getElem?_cons_succ, List.getElem?_append_right (by simp), List.getElem?_replicate, if_pos (by simp; omega)]

theorem flat_get0 (s : ByteArray) (p : Nat) : ∀ (acc : List Nat) (i : Nat), acc[i]? = some p → (flat s acc)[i * 2]? = some (.string (s.extract p (arrow s p))) := by
  intro acc
  induction acc with
  | nil => intro i h; simp at h
  | cons q r ih =>
    intro i h
    cases i with
    | zero =>
      simp at h
      subst h
      simp [flat, two]
    | succ i =>
      have h' := ih i (by simpa using h)
      have e : (i + 1) * 2 = (i * 2) + 2 := by omega
      rw [e]
      simpa [flat, two] using h'

theorem take_snoc {l : List Nat} {i p : Nat} (h : l[i]? = some p) : l.take i ++ [p] = l.take (i + 1) := by
  rw [List.take_add_one, h]; rfl

end Go.Proofs.Ytkjnhhbibaimfaa
