import Derived.Test.YtcfbfdjmcabnkabG16
namespace Go.Proofs.Ytcfbfdjmcabnkab
open Go.RowKit Fw
set_option linter.unusedVariables false

theorem wf64 {x : Int} (h : (Lit.int .i64 x).wf = true) : -9223372036854775808 ≤ x ∧ x ≤ 9223372036854775807 := by
  simpa [Lit.wf, IntKind.min, IntKind.max, IntKind.signed, IntKind.bits] using h

set_option maxRecDepth 100000 in
set_option maxHeartbeats 1000000 in
theorem pick_is (c : Int) (n : Nat) (w : World) (hc : (Lit.int .i64 c).wf = true) (hn : 0 < n) (hn2 : n ≤ 1073741824) :
    Calls Try.prog 8 #[.int .i64 c, .int .i64 (n : Int)] w fun e w' => (∃ m : Nat, m < n ∧ e = .returned (.int .i64 (m : Int))) ∧ w' = w := by
  obtain ⟨h1, h2⟩ := wf64 hc
  have hn0 : ((n : Int) == 0) = false := by rw [beq_eq_false_iff_ne]; omega
  by_cases h : c < 0
  · have e1 : -(c + 1).tmod (n : Int) = (-(c + 1)) % (n : Int) := by
      rw [← Int.neg_tmod, Int.tmod_eq_emod_of_nonneg (by omega)]
    have e2 := Int.emod_nonneg (-(c + 1)) (show (n : Int) ≠ 0 by omega)
    have e3 := Int.emod_lt_of_pos (-(c + 1)) (show (0 : Int) < (n : Int) by omega)
    have HE : Hid (-(c + 1).tmod (n : Int) = (-(c + 1)) % (n : Int)) := e1
    clear e1
    go_enter Try.func8, Try.ntmps8
    go_wp2_with fail
    go_ret
    refine ⟨⟨((-(c + 1)) % (n : Int)).toNat, by omega, ?_⟩, rfl⟩
    show Ending.returned (Value.int IntKind.i64 (-(c + 1).tmod (n : Int))) = _
    rw [HE.out, Int.toNat_of_nonneg e2]
  · have e2 := Int.emod_nonneg c (show (n : Int) ≠ 0 by omega)
    have e3 := Int.emod_lt_of_pos c (show (0 : Int) < (n : Int) by omega)
    go_enter Try.func8, Try.ntmps8
    go_wp2_with fail
    go_ret
    refine ⟨⟨(c % (n : Int)).toNat, by omega, ?_⟩, rfl⟩
    show Ending.returned (Value.int IntKind.i64 (c % (n : Int))) = _
    rw [Int.toNat_of_nonneg e2]

theorem pick_30 (c : Int) (w : World) (hc : (Lit.int .i64 c).wf = true) :
    Calls Try.prog 8 #[.int .i64 c, .int .i64 1073741824] w fun e w' => (∃ m : Nat, m < 1073741824 ∧ e = .returned (.int .i64 (m : Int))) ∧ w' = w := pick_is c 1073741824 w hc (by omega) (by omega)
theorem pick_6 (c : Int) (w : World) (hc : (Lit.int .i64 c).wf = true) :
    Calls Try.prog 8 #[.int .i64 c, .int .i64 6] w fun e w' => (∃ m : Nat, m < 6 ∧ e = .returned (.int .i64 (m : Int))) ∧ w' = w := pick_is c 6 w hc (by omega) (by omega)
theorem pick_3 (c : Int) (w : World) (hc : (Lit.int .i64 c).wf = true) :
    Calls Try.prog 8 #[.int .i64 c, .int .i64 3] w fun e w' => (∃ m : Nat, m < 3 ∧ e = .returned (.int .i64 (m : Int))) ∧ w' = w := pick_is c 3 w hc (by omega) (by omega)

end Go.Proofs.Ytcfbfdjmcabnkab

