import Derived.Test.YtkjnhhbibaimfaaSc
import Derived.BigRegion
namespace Go.Proofs.Ytkjnhhbibaimfaa
open Go.RowKit Fw
set_option linter.unusedVariables false

/-- six rows of six bools in block B -/
structure Mat (w : World) (B : Nat) (M : Nat → Nat → Bool) : Prop where
  lt : B < w.heap.size
  c : ∀ i j, i < 6 → j < 6 → w.cell? ⟨B, i * 6 + j, none⟩ = some (.bool (M i j))
  z : ∀ o, o < 36 → w.frozen? ⟨B, o, none⟩ = false

theorem Mat.set {w : World} {B : Nat} {M : Nat → Nat → Bool} (h : Mat w B M) (i j : Nat) (v : Bool) (hi : i < 6) (hj : j < 6) : Mat (w.setCell ⟨B, i * 6 + j, none⟩ (.bool v)) B (fun x y => if x = i ∧ y = j then v else M x y) := by
  refine ⟨by simpa using h.lt, ?_, ?_⟩
  · intro x y hx hy
    by_cases e : x = i ∧ y = j
    · obtain ⟨rfl, rfl⟩ := e
      rw [cell_sameS (h.c x y hx hy)]
      simp
    · rw [cell_otherS (addrS (by omega)), h.c x y hx hy, if_neg e]
  · intro o ho
    rw [World.frozen?_setCell]
    exact h.z o ho

theorem Mat.congr {w : World} {B : Nat} {M N : Nat → Nat → Bool} (h : Mat w B M) (hm : ∀ i j, i < 6 → j < 6 → M i j = N i j) : Mat w B N :=
  ⟨h.lt, fun i j hi hj => by rw [← hm i j hi hj]; exact h.c i j hi hj, h.z⟩
theorem Mat.below {w w' : World} {K B : Nat} {M : Nat → Nat → Bool} (h : Mat w B M) (hb : Below K w w') (hk : B < K) : Mat w' B M :=
  ⟨Nat.lt_of_lt_of_le h.lt hb.size, fun i j hi hj => (hb.cell (p := ⟨B, i * 6 + j, none⟩) hk).trans (h.c i j hi hj), fun o ho => (hb.frozen (p := ⟨B, o, none⟩) hk).trans (h.z o ho)⟩
theorem Mat.alloc {w : World} {B : Nat} {M : Nat → Nat → Bool} (h : Mat w B M) (o : Obj) : Mat (w.alloc o) B M :=
  h.below ((Below.refl w.heap.size w).alloc (Nat.le_refl _) o) h.lt
theorem Mat.drewN {w : World} {B : Nat} {M : Nat → Nat → Bool} (h : Mat w B M) (k : Nat) : Mat (w.drewN k) B M := ⟨h.lt, h.c, h.z⟩
theorem Mat.drew {w : World} {B : Nat} {M : Nat → Nat → Bool} (h : Mat w B M) : Mat w.drew B M := ⟨h.lt, h.c, h.z⟩
theorem Arr.drew {w : World} {B n : Nat} {f : Nat → Bool} (h : Arr w B n f) : Arr w.drew B n f := ⟨h.lt, h.c, h.z⟩
theorem Mat.setOther {w : World} {B : Nat} {M : Nat → Nat → Bool} (h : Mat w B M) {a : Addr} (v : Value) (ha : a.block ≠ B) : Mat (w.setCell a v) B M := by
  refine ⟨by simpa using h.lt, ?_, ?_⟩
  · intro i j hi hj
    rw [cell_otherS (by intro e; rw [e] at ha; exact ha rfl)]
    exact h.c i j hi hj
  · intro j hj
    rw [World.frozen?_setCell]
    exact h.z j hj
theorem Mat.there {w : World} {B : Nat} {M : Nat → Nat → Bool} (h : Mat w B M) : w.there B 0 36 := fun j hj => by
  rw [Nat.zero_add]
  have := h.c (j / 6) (j % 6) (by omega) (by omega)
  rw [show j / 6 * 6 + j % 6 = j from by omega] at this
  exact ⟨by rw [this]; rfl, h.z j hj⟩

def flat6 (M : Nat → Nat → Bool) : Nat → Bool := fun k => M (k / 6) (k % 6)

theorem Mat.range {w : World} {B : Nat} {M : Nat → Nat → Bool} (h : Mat w B M) : w.rangeAt B 0 (bools 36 (flat6 M)) := by
  intro j v hv
  have hj : j < 36 := by
    have := (List.getElem?_eq_some_iff.1 hv).1
    rw [bools_len] at this
    exact this
  rw [Nat.zero_add]
  simp only [bools, List.getElem?_map, List.getElem?_range hj, Option.map_some] at hv
  injection hv with hv
  rw [← hv]
  have := h.c (j / 6) (j % 6) (by omega) (by omega)
  rw [show j / 6 * 6 + j % 6 = j from by omega] at this
  exact this

theorem mat_of_range {w : World} {B : Nat} {M : Nat → Nat → Bool} (hlt : B < w.heap.size) (h : w.rangeAt B 0 (bools 36 (flat6 M))) (hz : ∀ o, o < 36 → w.frozen? ⟨B, o, none⟩ = false) : Mat w B M := by
  refine ⟨hlt, fun i j hi hj => ?_, hz⟩
  have hl : i * 6 + j < 36 := by omega
  have := h (i * 6 + j) (.bool (M i j)) (by
    simp only [bools, List.getElem?_map, List.getElem?_range hl, Option.map_some, flat6]
    rw [show (i * 6 + j) / 6 = i from by omega, show (i * 6 + j) % 6 = j from by omega])
  rw [Nat.zero_add] at this
  exact this

theorem arr_of_range {w : World} {B n : Nat} {f : Nat → Bool} (hlt : B < w.heap.size) (h : w.rangeAt B 0 (bools n f)) (hz : ∀ o, o < n → w.frozen? ⟨B, o, none⟩ = false) : Arr w B n f := by
  refine ⟨hlt, fun j hj => ?_, hz⟩
  have := h j (.bool (f j)) (by simp only [bools, List.getElem?_map, List.getElem?_range hj, Option.map_some])
  rw [Nat.zero_add] at this
  exact this

theorem zero36_is : (#[.bool false, .bool false, .bool false, .bool false, .bool false, .bool false, .bool false, .bool false, .bool false, .bool false, .bool false, .bool false, .bool false, .bool false, .bool false, .bool false, .bool false, .bool false, .bool false, .bool false, .bool false, .bool false, .bool false, .bool false, .bool false, .bool false, .bool false, .bool false, .bool false, .bool false, .bool false, .bool false, .bool false, .bool false, .bool false, .bool false] : Array Value) = Array.replicate 36 (.bool false) := rfl

theorem mat_new (w : World) (t B : Nat) (hB : w.heap.size = B) : Mat (w.alloc (.cells #[.bool false, .bool false, .bool false, .bool false, .bool false, .bool false, .bool false, .bool false, .bool false, .bool false, .bool false, .bool false, .bool false, .bool false, .bool false, .bool false, .bool false, .bool false, .bool false, .bool false, .bool false, .bool false, .bool false, .bool false, .bool false, .bool false, .bool false, .bool false, .bool false, .bool false, .bool false, .bool false, .bool false, .bool false, .bool false, .bool false] t)) B (fun _ _ => false) := by
  subst hB
  rw [zero36_is]
  have hb := heap_alloc_new w (.cells (Array.replicate 36 (.bool false)) t)
  refine ⟨by simp, fun i j hi hj => ?_, fun o _ => frozen_of_row _ _ _ _ _ hb⟩
  rw [cell_of_row _ _ _ _ _ _ hb, Array.getElem?_replicate, if_pos (by omega)]

theorem fw_out {G : Gph} (ok : G.ok) {S : Nat → Bool} : ∀ k i j, (G.n ≤ i ∨ G.n ≤ j) → fw G.e S k i j = false := by
  intro k
  induction k with
  | zero =>
    intro i j h
    have : G.e i j = false := by
      rw [Bool.eq_false_iff]
      intro he
      have := ok i j he
      omega
    simp [fw, this]
  | succ k ih =>
    intro i j h
    rw [fw, ih i j h]
    rcases h with h | h
    · rw [ih i k (.inl h)]; rfl
    · rw [ih k j (.inr h)]; simp

theorem fw_col (e : Nat → Nat → Bool) (S : Nat → Bool) (k i : Nat) : fw e S (k + 1) i k = fw e S k i k := by
  rw [fw]; cases fw e S k i k <;> simp
theorem fw_row (e : Nat → Nat → Bool) (S : Nat → Bool) (k j : Nat) : fw e S (k + 1) k j = fw e S k k j := by
  rw [fw]; cases fw e S k k j <;> simp

/-- the table in the midst of a round: what is done already, what is not -/
def half (done todo : Nat → Nat → Bool) (k l : Nat) : Nat → Nat → Bool := fun i j => if i < k ∨ (i = k ∧ j < l) then done i j else todo i j

theorem half_step {done todo : Nat → Nat → Bool} {k l : Nat} : (fun x y => if x = k ∧ y = l then done k l else half done todo k l x y) = half done todo k (l + 1) := by
  funext x y
  unfold half
  by_cases e : x = k ∧ y = l
  · obtain ⟨rfl, rfl⟩ := e
    rw [if_pos ⟨rfl, rfl⟩, if_pos (by omega)]
  · rw [if_neg e]
    by_cases h : x < k ∨ (x = k ∧ y < l)
    · rw [if_pos h, if_pos (by omega)]
    · rw [if_neg h, if_neg (by omega)]

theorem half_row {done todo : Nat → Nat → Bool} {k l n : Nat} (hl : n ≤ l) (h : ∀ j, n ≤ j → done k j = todo k j) : ∀ i j, half done todo k l i j = half done todo (k + 1) 0 i j := by
  intro i j
  unfold half
  by_cases h1 : i < k
  · rw [if_pos (.inl h1), if_pos (by omega)]
  · by_cases h2 : i = k
    · subst h2
      by_cases h3 : j < l
      · rw [if_pos (by omega), if_pos (by omega)]
      · rw [if_neg (by omega), if_pos (by omega)]
        exact (h j (by omega)).symm
    · rw [if_neg (by omega), if_neg (by omega)]

theorem half_all {done todo : Nat → Nat → Bool} {k n : Nat} (hk : n ≤ k) (h : ∀ i j, n ≤ i → done i j = todo i j) : ∀ i j, half done todo k 0 i j = done i j := by
  intro i j
  unfold half
  by_cases h1 : i < k
  · rw [if_pos (.inl h1)]
  · rw [if_neg (by omega)]
    exact (h i j (by omega)).symm

theorem half_none {done todo : Nat → Nat → Bool} : ∀ i j, half done todo 0 0 i j = todo i j := by
  intro i j
  unfold half
  rw [if_neg (by omega)]

theorem Try.size113 : (Try.prog.info? 113).map (·.size) = some 36 := by kernel_rfl
theorem Try.row113 : ∃ d, Try.prog.underlying 113 = some d ∧ d.isRow = true := ⟨_, Try.underlying113, rfl⟩

end Go.Proofs.Ytkjnhhbibaimfaa
