import Derived.Test.YtkjnhhbibaimfaaPl
import Derived.Test.YtkjnhhbibaimfaaZh
import Derived.Laws.MakeOwn
namespace Go.Proofs.Ytkjnhhbibaimfaa
open Go.RowKit Fw
open Go.Deep (BT)
set_option linter.unusedVariables false

/-- a row of sets -/
structure Tab (w : World) (gs n : Nat) (F : Nat → Nat → Bool) : Prop where
  lt : gs < w.heap.size
  c : ∀ i j, i < n → j < 6 → w.cell? ⟨gs, i * 6 + j, none⟩ = some (.bool (F i j))
  z : ∀ o, o < n * 6 → w.frozen? ⟨gs, o, none⟩ = false

theorem Tab.below {w w' : World} {k gs n : Nat} {F : Nat → Nat → Bool} (h : Tab w gs n F) (hb : Below k w w') (hk : gs < k) : Tab w' gs n F :=
  ⟨Nat.lt_of_lt_of_le h.lt hb.size, fun i j hi hj => (hb.cell (p := ⟨gs, i * 6 + j, none⟩) hk).trans (h.c i j hi hj), fun o ho => (hb.frozen (p := ⟨gs, o, none⟩) hk).trans (h.z o ho)⟩

theorem cell_block {w w' : World} {R b : Nat} (hk : ∀ k, k ≠ R → w'.heap[k]? = w.heap[k]?) (hb : b ≠ R) (j : Nat) : w'.cell? ⟨b, j, none⟩ = w.cell? ⟨b, j, none⟩ := by
  have h := hk b hb
  unfold World.cell?
  simp only [h]

theorem six_at (S : Nat → Bool) (j : Nat) (hj : j < 6) (h : j < (six S).toList.length) : (six S).toList[j] = .bool (S j) := by
  obtain rfl | rfl | rfl | rfl | rfl | rfl := (by omega : j = 0 ∨ j = 1 ∨ j = 2 ∨ j = 3 ∨ j = 4 ∨ j = 5) <;> rfl

theorem storeRow {w : World} {gs n : Nat} {F : Nat → Nat → Bool} (h : Tab w gs n F) {k : Nat} (hk : k < n) (S : Nat → Bool) :
    ∃ w', (storeCells ⟨gs, k * 6, none⟩ (six S).toList).run Try.prog w = .ok () w' ∧ Below gs w w' ∧ w'.heap.size = w.heap.size ∧ (∀ b, b ≠ gs → w'.heap[b]? = w.heap[b]?) ∧ Tab w' gs n (fun i j => if i = k then S j else F i j) := by
  have hl : (six S).toList.length = 6 := rfl
  have hs : ∀ j, j < (six S).toList.length → (w.cell? ⟨gs, k * 6 + 0 + j, none⟩).isSome = true := fun j hj => by
    rw [Nat.add_zero, h.c k j hk (by rw [hl] at hj; exact hj)]; rfl
  have hc := run_storeCells_cells (P := Try.prog) gs (k * 6) (six S).toList 0 w hs (fun j hj => by rw [Nat.add_zero]; exact h.z _ (by rw [hl] at hj; omega)) (fun v hv => (Array.all_eq_true_iff_forall_mem.1 (bools_one 6 S)) v (by
    have : v ∈ (six S).toList := hv
    simpa [six, bools, List.range, List.range.loop] using this))
  refine ⟨_, hc, below_setCellsT gs _ _ _, size_setCellsT gs _ _ _, block_setCellsT gs _ _ _, ?_⟩
  refine ⟨by rw [size_setCellsT]; exact h.lt, fun i j hi hj => ?_, fun o ho => ?_⟩
  · by_cases e : i = k
    · subst e
      rw [if_pos rfl]
      have := World.cell?_setCells_in gs (six S).toList (i * 6 + 0) w hs j (by rw [hl]; exact hj)
      rw [six_at S j hj] at this
      rw [Nat.add_zero] at this ⊢
      exact this
    · rw [if_neg e, World.cell?_setCells_out gs (six S).toList (k * 6 + 0) w ⟨gs, i * 6 + j, none⟩ (fun _ _ => by rw [hl]; simp only; omega)]
      exact h.c i j hi hj
  · rw [World.frozen?_setCells]
    exact h.z o ho

/-- the sets behind k nodes -/
def vals (G : Gph) (fs : List Nat) (ns : List Nd) : Nat → Nat → Nat → Bool
  | 0 => fun _ _ => false
  | k + 1 => fun i => if i = k then (match ns[k]? with | some x => hold1 G fs x.1 x.2.1 (vals G fs ns k x.2.2.1) (vals G fs ns k x.2.2.2.1) | none => fun _ => false) else vals G fs ns k i

theorem vals_next {G : Gph} {fs : List Nat} {ns : List Nd} {k sg wy li ri c : Nat} (hx : ns[k]? = some (sg, wy, li, ri, c)) : (fun i j => if i = k then hold1 G fs sg wy (vals G fs ns k li) (vals G fs ns k ri) j else vals G fs ns k i j) = vals G fs ns (k + 1) := by
  funext i j
  show _ = (if i = k then (match ns[k]? with | some x => hold1 G fs x.1 x.2.1 (vals G fs ns k x.2.2.1) (vals G fs ns k x.2.2.2.1) | none => fun _ => false) else vals G fs ns k i) j
  by_cases e : i = k
  · rw [if_pos e, if_pos e, hx]
  · rw [if_neg e, if_neg e]

theorem vals_stay {G : Gph} {fs : List Nat} {ns : List Nd} {i : Nat} : ∀ k, i < k → vals G fs ns k i = vals G fs ns (i + 1) i := by
  intro k
  induction k with
  | zero => intro h; omega
  | succ k ih =>
    intro h
    by_cases e : i = k
    · subst e; rfl
    · rw [← ih (by omega)]
      show (if i = k then _ else vals G fs ns k i) = _
      rw [if_neg e]

theorem hold1_atom (G : Gph) (fs : List Nat) (sg wy : Nat) (S T S' T' : Nat → Bool) (h : isAtom sg = true) : hold1 G fs sg wy S T = hold1 G fs sg wy S' T' := by
  simp only [isAtom, decide_eq_true_eq] at h
  have q1 : ¬ sg = 33 := by omega
  have q2 : ¬ sg = 38 := by omega
  have q3 : ¬ sg = 43 := by omega
  have q4 : ¬ (sg = 88 ∨ sg = 85 ∨ sg = 82) := by omega
  funext i
  simp only [hold1, if_neg q1, if_neg q2, if_neg q3, if_neg q4]

theorem hold1_one (G : Gph) (fs : List Nat) (sg wy : Nat) (S T T' : Nat → Bool) (h : sg = 33 ∨ sg = 88) : hold1 G fs sg wy S T = hold1 G fs sg wy S T' := by
  funext i
  rcases h with rfl | rfl
  · rfl
  · simp [hold1, everyP, someP, Fw.flip]

/-- THE ROW OF SETS TELLS WHERE EACH FORMULA HOLDS -/
theorem vals_is {G : Gph} {fs : List Nat} {ns : List Nd} (hc : Clo ns) : ∀ (t : Fm), good t → ∀ i k, Rep ns t i → i < k → vals G fs ns k i = holdsP G fs t := by
  intro t
  induction t with
  | nil => intro h; exact absurd h (by simp [good])
  | node sg wy u l r ihl ihr =>
    intro h i k hr hk
    obtain ⟨li, ri, hx, hrl, hrr⟩ := hr
    rw [vals_stay k hk, ← vals_next hx, holdsP_node]
    have ee : (fun j => if i = i then hold1 G fs sg wy (vals G fs ns i li) (vals G fs ns i ri) j else vals G fs ns i i j) = hold1 G fs sg wy (vals G fs ns i li) (vals G fs ns i ri) := by
      funext j; rw [if_pos rfl]
    show (fun j => if i = i then hold1 G fs sg wy (vals G fs ns i li) (vals G fs ns i ri) j else vals G fs ns i i j) = _
    rw [ee]
    clear ee
    have hcx := hc i _ hx
    rcases good_cases h with ⟨c, e, hc1, ht⟩ | ⟨x, e, hx1, ht⟩ | ⟨s, x, y, e, hs, hx1, hy1, ht⟩ | ⟨v, x, e, hv, hx1, ht⟩ | ⟨s, v, x, y, e, hs, hv, hx1, hy1, ht⟩
    · injection e with e3 e0 _ e1 e2
      subst e3 e0 e1 e2
      exact hold1_atom _ _ _ _ _ _ _ _ hc1
    · injection e with e3 e0 _ e1 e2
      subst e3 e0 e1 e2
      have hlt : li < i := by
        rcases hcx with ⟨ha, _⟩ | ⟨h1, _⟩
        · simp [isAtom] at ha
        · exact h1
      rw [ihl hx1 li i hrl hlt]
      exact hold1_one _ _ _ _ _ _ _ (.inl rfl)
    · injection e with e3 e0 _ e1 e2
      subst e3 e0 e1 e2
      have hlt : li < i ∧ ri < i := by
        rcases hcx with ⟨ha, _⟩ | h1
        · simp only [isAtom, decide_eq_true_eq] at ha; omega
        · exact h1
      rw [ihl hx1 li i hrl hlt.1, ihr hy1 ri i hrr hlt.2]
    · injection e with e3 e0 _ e1 e2
      subst e3 e0 e1 e2
      have hlt : li < i := by
        rcases hcx with ⟨ha, _⟩ | ⟨h1, _⟩
        · simp [isAtom] at ha
        · exact h1
      rw [ihl hx1 li i hrl hlt]
      exact hold1_one _ _ _ _ _ _ _ (.inr rfl)
    · injection e with e3 e0 _ e1 e2
      subst e3 e0 e1 e2
      have hlt : li < i ∧ ri < i := by
        rcases hcx with ⟨ha, _⟩ | h1
        · simp only [isAtom, decide_eq_true_eq] at ha; omega
        · exact h1
      rw [ihl hx1 li i hrl hlt.1, ihr hy1 ri i hrr hlt.2]

theorem Try.info59 : (Try.prog.info? 59).map (fun i => (i.zero, i.size, i.bytes)) = some (some (.agg (six fun _ => false)), 6, 6) := by kernel_rfl
theorem Try.size97 : (Try.prog.info? 97).map (·.size) = some 5 := by kernel_rfl

theorem there_newG (w : World) (C : Array Value) (t : TypeId) (n : Nat) (h : C.size = n) : (w.alloc (.cells C t)).there w.heap.size 0 n := by
  intro j hj
  have hb := heap_alloc_new w (.cells C t)
  refine ⟨?_, frozen_of_row _ _ _ _ _ hb⟩
  rw [cell_of_row _ _ _ _ _ _ hb]
  simp
  omega

theorem make_sets (n : Nat) (hn : n ≤ 1000) : ∃ Z : Array Value, (∀ j, j < n * 6 → Z[j]? = some (.bool false)) ∧ ∀ W : World, (Instr.makeSlice 90 (.int .i64 (n : Int)) (.int .i64 (n : Int))).run Try.prog W = .ok (.slice (some ⟨W.heap.size, 0, none⟩) n n) (W.alloc (.cells Z 59)) := by
  obtain ⟨i, hi, hz, hs, hb⟩ := info_parts Try.info59
  refine ⟨madeCells (six fun _ => false) (n * 6), fun j hj => ?_, fun W => ?_⟩
  · unfold madeCells
    rw [Array.getElem?_map, Array.getElem?_range, if_pos hj]
    have : j % 6 = 0 ∨ j % 6 = 1 ∨ j % 6 = 2 ∨ j % 6 = 3 ∨ j % 6 = 4 ∨ j % 6 = 5 := by omega
    have e6 : (six fun _ => false).size = 6 := rfl
    simp only [Option.map_some, e6]
    rcases this with h | h | h | h | h | h <;> rw [h] <;> rfl
  · have := run_make (P := Try.prog) W 90 59 i _ Try.underlying90 hi hz .i64 .i64 (n : Int) (n : Int) (by omega) (by omega) (by rw [hb]; omega) (by omega)
    rw [hs] at this
    rw [show (Value.agg (six fun _ => false)).cells = six fun _ => false from rfl] at this
    simpa using this

end Go.Proofs.Ytkjnhhbibaimfaa
