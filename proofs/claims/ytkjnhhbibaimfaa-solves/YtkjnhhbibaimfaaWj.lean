import Derived.Test.YtkjnhhbibaimfaaWi
import Derived.Test.YtkjnhhbibaimfaaWc
import Derived.BigQuiet
namespace Go.Proofs.Ytkjnhhbibaimfaa
open Go.RowKit Fw
set_option linter.unusedVariables false

/-- P3, of any text -/
def chkAll (s : ByteArray) : Nat × Nat := if s.size ≤ 210 then chk s else (1, 0)

theorem loadGraph_all (s : ByteArray) (w : World) :
    Calls Try.prog 45 #[.string s] w fun e w' => (∃ cs : List Value, e = .returned (.agg (.int .i64 ((chkAll s).1 : Nat) :: .int .i64 ((chkAll s).2 : Nat) :: cs).toArray) ∧ cs.length = 43 ∧ (∀ v ∈ cs, v.oneCell' = true) ∧ ((chkAll s).1 = 0 → cs = grCells (run s 6 0).2.2.length (mat s (run s 6 0).2.2) (mrk s (run s 6 0).2.2))) ∧ Below w.heap.size w w' := by
  unfold chkAll
  by_cases h : s.size ≤ 210
  · rw [if_pos h]; exact loadGraph_any s w h
  · rw [if_neg h]
    refine (loadGraph_long s w h).mono ?_
    rintro e w' ⟨⟨cs, h1, h2, h3⟩, hb⟩
    exact ⟨⟨cs, h1, h2, h3, fun h => by cases h⟩, hb⟩

theorem refCheck_all (s : ByteArray) (w : World) :
    Calls Try.prog 35 #[.string s] w fun e w' => e = .returned (.tuple #[.int .i64 ((chkAll s).1 : Nat), .int .i64 ((chkAll s).2 : Nat)]) ∧ Below w.heap.size w w' := by
  unfold chkAll
  by_cases h : s.size ≤ 210
  · rw [if_pos h]; exact refCheck_any s w h
  · rw [if_neg h]
    refine (refCheck_long s w h).mono ?_
    rintro e w' ⟨rfl, rfl⟩
    exact ⟨rfl, Below.refl _ _⟩

set_option maxRecDepth 100000 in
set_option maxHeartbeats 1000000 in
theorem check_all (s : ByteArray) (w : World) :
    Calls Try.prog 34 #[.string s] w fun e w' => e = .returned (.tuple #[.int .i64 ((chkAll s).1 : Nat), .int .i64 ((chkAll s).2 : Nat)]) ∧ Below w.heap.size w w' := by
  go_enter Try.func34, Try.ntmps34
  go_wp2_with fail
  refine (loadGraph_all s _).mono ?_
  rintro e w1 ⟨⟨cs, rfl, hl, h1, _⟩, hb1⟩
  have HC : Hid (∀ v ∈ cs, v.oneCell' = true) := h1
  clear h1
  go_wp2_with (refine store49 (by rfl) _ _ (by rfl) w1.heap.size _ (by rfl) (by rfl) (there_new _ _ _ rfl) (size_cons43 _ _ _ hl) (one_cons43 _ _ _ rfl rfl HC.out) ?_; intro w2 hb2 hz2 hk2 hr2)
  have HB : Hid (Below w.heap.size w w2) := (hb1.alloc hb1.size _).trans (hb2.mono hb1.size)
  have c0 : w2.cell? ⟨w1.heap.size, 0, none⟩ = some (.int .i64 ((chkAll s).1 : Nat)) := hr2 0 _ rfl
  have c1 : w2.cell? ⟨w1.heap.size, 1, none⟩ = some (.int .i64 ((chkAll s).2 : Nat)) := hr2 1 _ rfl
  clear hr2 hk2 hz2 hb2
  go_wp2
  go_quiet (fail)
  go_wp2
  go_ret2
  exact ⟨rfl, below_drewN HB.out _⟩

theorem num_any (n : Int) (w : World) : Calls Try.prog 36 #[.int .i64 n] w fun e w' => e = .returned (.int .i64 n) ∧ w' = w := by
  go_enter Try.func36, Try.ntmps36
  go_wp2
  go_ret
  exact ⟨rfl, rfl⟩

set_option maxRecDepth 100000 in
set_option maxHeartbeats 1000000 in
theorem plays_check (n : Int) (g f s c : ByteArray) (w : World) :
    Calls Try.prog 28 #[.agg #[.int .i64 1, .int .i64 n, .string g, .string f, .string s, .string c]] w fun e w' => e = .returned (.bool true) ∧ Below w.heap.size w w' := by
  go_enter Try.func28, Try.ntmps28
  go_wp2_with fail
  refine (check_all g _).mono ?_
  rintro e w1 ⟨rfl, hb1⟩
  have hsz := hb1.size
  have hg : w1.cell? ⟨w.heap.size, 2, none⟩ = some (.string g) := by rw [hb1.cell (p := ⟨w.heap.size, 2, none⟩) (by simp)]; simp
  go_wp2_with fail
  refine (refCheck_all g _).mono ?_
  rintro e w2 ⟨rfl, hb2⟩
  have h1 : (((chkAll g).1 : Int) == ((chkAll g).1 : Int)) = true := by simp
  go_wp2_with (go_at_call 36; refine (num_any _ _).mono ?_; rintro e w3 ⟨rfl, rfl⟩)
  go_ret
  exact ⟨by simp, (((Below.refl _ _).alloc (Nat.le_refl _) _).trans (hb1.mono (by simp))).trans (hb2.mono (by simp at hsz; omega))⟩

end Go.Proofs.Ytkjnhhbibaimfaa
