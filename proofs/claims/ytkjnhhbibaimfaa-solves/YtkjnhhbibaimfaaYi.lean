import Derived.Test.YtkjnhhbibaimfaaYh
import Derived.Test.YtkjnhhbibaimfaaWk
namespace Go.Proofs.Ytkjnhhbibaimfaa
open Go.RowKit Fw
open Go.Deep (BT)
set_option linter.unusedVariables false

/-- P4, of any text -/
def frmAll (s : ByteArray) : Nat × Nat := if s.size ≤ 30 then frm s else (1, 0)

theorem frm_bad {s : ByteArray} (h : ¬ ((ptAll s).1 = true ∧ (ptAll s).2.1 = [])) : frm s = (5, s.size - (ptAll s).2.1.length) := by
  show (if (ptAll s).1 = true ∧ (ptAll s).2.1 = [] then (if 3 < nst (ptAll s).2.2 then (6, 0) else (0, 0)) else (5, s.size - (ptAll s).2.1.length)) = _
  rw [if_neg h]
theorem frm_deep {s : ByteArray} (h : (ptAll s).1 = true) (h2 : (ptAll s).2.1 = []) (h3 : 3 < nst (ptAll s).2.2) : frm s = (6, 0) := by
  show (if (ptAll s).1 = true ∧ (ptAll s).2.1 = [] then (if 3 < nst (ptAll s).2.2 then (6, 0) else (0, 0)) else (5, s.size - (ptAll s).2.1.length)) = _
  rw [if_pos ⟨h, h2⟩, if_pos h3]
theorem frm_good {s : ByteArray} (h : (ptAll s).1 = true) (h2 : (ptAll s).2.1 = []) (h3 : ¬ 3 < nst (ptAll s).2.2) : frm s = (0, 0) := by
  show (if (ptAll s).1 = true ∧ (ptAll s).2.1 = [] then (if 3 < nst (ptAll s).2.2 then (6, 0) else (0, 0)) else (5, s.size - (ptAll s).2.1.length)) = _
  rw [if_pos ⟨h, h2⟩, if_neg h3]

/-- what loadFormula answers, of any text -/
theorem loadFormula_all (s : ByteArray) (w : World) :
    Calls Try.prog 32 #[.string s] w fun e w' => Below w.heap.size w w' ∧ ∃ (a : Option Addr) (n cap : Nat) (r : Int), e = .returned (.agg #[.int .i64 ((frmAll s).1 : Nat), .int .i64 ((frmAll s).2 : Nat), .slice a n cap, .int .i64 r]) ∧
      ((frmAll s).1 = 0 → s.size ≤ 30 ∧ ∃ ns t, ∃ i : Nat, r = (i : Int) ∧ w'.ownsRow (w.heap.size + 2) 97 5 (.slice a n cap) ns.length (flatN ns) ∧ Rep ns t i ∧ good t ∧ s.data.toList = txt t) := by
  by_cases hs : s.size ≤ 30
  · refine (loadFormula_any s w hs).mono ?_
    have e0 : frmAll s = frm s := if_pos hs
    rintro e w' ⟨hb, ⟨h1, rfl⟩ | ⟨h1, h2, h3, rfl⟩ | ⟨h1, h2, h3, v, ns, i, rfl, hown, hrep, hclo, _⟩⟩
    · exact ⟨hb, _, _, _, _, by rw [e0, frm_bad h1]; rfl, by rw [e0, frm_bad h1]; intro h; simp at h⟩
    · exact ⟨hb, _, _, _, _, by rw [e0, frm_deep h1 h2 h3]; rfl, by rw [e0, frm_deep h1 h2 h3]; intro h; simp at h⟩
    · obtain ⟨a, cap, rfl⟩ : ∃ a cap, v = .slice a ns.length cap := by
        rcases hown.2 with ⟨q1, q2⟩ | ⟨g, cap, cur, q1, _⟩
        · exact ⟨none, 0, by rw [q1, q2]⟩
        · exact ⟨_, _, q1⟩
      refine ⟨hb, a, ns.length, cap, i, by rw [e0, frm_good h1 h2 h3]; rfl, fun _ => ⟨hs, ns, (ptAll s).2.2, i, rfl, hown, hrep, ?_⟩⟩
      have hp := pt_sound (s.size + 1) (tl s 0) h1
      refine ⟨hp.2, ?_⟩
      have e1 := hp.1
      have h2' : (pt (s.size + 1) (tl s 0)).2.1 = [] := h2
      rw [h2', List.append_nil, tl0] at e1
      rw [e1]
      show txt (pt (s.size + 1) s.data.toList).2.2 = txt (pt (s.size + 1) (tl s 0)).2.2
      rw [tl0]
  · refine (loadFormula_long s w hs).mono ?_
    rintro e w' ⟨rfl, hb⟩
    have e0 : frmAll s = (1, 0) := if_neg hs
    exact ⟨hb, _, _, _, _, by rw [e0]; rfl, by rw [e0]; intro h; simp at h⟩

theorem refForm_all (s : ByteArray) (w : World) :
    Calls Try.prog 38 #[.string s] w fun e w' => e = .returned (.tuple #[.int .i64 ((frmAll s).1 : Nat), .int .i64 ((frmAll s).2 : Nat)]) ∧ ∃ n, w' = w.drewN n := by
  unfold frmAll
  by_cases h : s.size ≤ 30
  · rw [if_pos h]; exact refForm_any s w h
  · rw [if_neg h]
    refine (refForm_long s w h).mono ?_
    rintro e w' ⟨rfl, rfl⟩
    exact ⟨rfl, 0, rfl⟩

set_option maxRecDepth 100000 in
set_option maxHeartbeats 1000000 in
theorem form_all (s : ByteArray) (w : World) :
    Calls Try.prog 37 #[.string s] w fun e w' => e = .returned (.tuple #[.int .i64 ((frmAll s).1 : Nat), .int .i64 ((frmAll s).2 : Nat)]) ∧ Below w.heap.size w w' := by
  go_enter Try.func37, Try.ntmps37
  go_wp2_with fail
  refine (loadFormula_all s _).mono ?_
  rintro e w1 ⟨hb1, a, n, cap, r, rfl, _⟩
  have hsz := hb1.size
  go_wp2_with fail
  go_quiet (fail)
  go_wp2
  go_ret2
  exact ⟨rfl, below_drewN (hb1.alloc hsz _) _⟩

theorem num_anyY (n : Int) (w : World) : Calls Try.prog 36 #[.int .i64 n] w fun e w' => e = .returned (.int .i64 n) ∧ w' = w := by
  go_enter Try.func36, Try.ntmps36
  go_wp2
  go_ret
  exact ⟨rfl, rfl⟩

set_option maxRecDepth 100000 in
set_option maxHeartbeats 1000000 in
theorem plays_form (n : Int) (g f s c : ByteArray) (w : World) :
    Calls Try.prog 28 #[.agg #[.int .i64 2, .int .i64 n, .string g, .string f, .string s, .string c]] w fun e w' => e = .returned (.bool true) ∧ Below w.heap.size w w' := by
  go_enter Try.func28, Try.ntmps28
  go_wp2_with fail
  refine (form_all s _).mono ?_
  rintro e w1 ⟨rfl, hb1⟩
  have hsz := hb1.size
  have hg : w1.cell? ⟨w.heap.size, 4, none⟩ = some (.string s) := by rw [hb1.cell (p := ⟨w.heap.size, 4, none⟩) (by simp)]; simp
  go_wp2_with fail
  refine (refForm_all s _).mono ?_
  rintro e w2 ⟨rfl, m, rfl⟩
  have h1 : (((frmAll s).1 : Int) == ((frmAll s).1 : Int)) = true := by simp
  go_wp2_with (go_at_call 36; refine (num_anyY _ _).mono ?_; rintro e w3 ⟨rfl, rfl⟩)
  go_ret
  exact ⟨by simp, below_drewN (((Below.refl _ _).alloc (Nat.le_refl _) _).trans (hb1.mono (by simp))) m⟩

theorem plays2 : PlaysAll 2 2 := by
  intro k n g f s c w h1 h2 _ _ _ _ _
  obtain rfl : k = 2 := by omega
  exact plays_form n g f s c w

set_option maxRecDepth 100000 in
set_option maxHeartbeats 1000000 in
theorem forms_walk (hp : PlaysAll 2 2) (a : Option Addr) (len cap : Nat) (w : World) (HO : Hid (IsOps w a len cap)) :
    Calls Try.prog 4 #[.slice a len cap] w fun e w' => e = .returned (.bool true) ∧ Below w.heap.size w w' := by
  go_enter Try.func4, Try.ntmps4
  go_wp2_with fail
  refine (upTo_any 2 2 hp a len cap _ HO).mono ?_
  rintro e w1 ⟨rfl, hb⟩
  go_wp2_with fail
  go_ret
  exact ⟨rfl, hb⟩

end Go.Proofs.Ytkjnhhbibaimfaa
