import Derived.Test.YtkjnhhbibaimfaaZf
namespace Go.Proofs.Ytkjnhhbibaimfaa
open Go.RowKit Fw
open Go.Deep (BT)
set_option linter.unusedVariables false

set_option maxRecDepth 100000 in
set_option maxHeartbeats 1000000 in
theorem pu_atom (tb g cap n i sg li ri k : Nat) (neg : Bool) (w : World) (hc : isAtom sg = true) (HA : Hid (At5 w tb g cap n i sg 0 li ri k)) :
    Calls Try.prog 33 #[.pointer (some ⟨tb, 0, none⟩), .int .i64 (i : Int), .bool neg] w fun e w' => e = .returned (.string (bs (if neg = true then [33, b8 sg] else [b8 sg]))) ∧ Below w.heap.size w w' := by
  obtain ⟨lt, glt, hi, c2, n0, n1, n2, n3, n4⟩ := HA.out
  have hi2 : (i : Int) < (n : Int) := by omega
  simp only [isAtom, decide_eq_true_eq] at hc
  have b33 : ((sg : Int) == 33) = false := by rw [beq_eq_false_iff_ne]; omega
  have b38 : ((sg : Int) == 38) = false := by rw [beq_eq_false_iff_ne]; omega
  have b43 : ((sg : Int) == 43) = false := by rw [beq_eq_false_iff_ne]; omega
  have b88 : ((sg : Int) == 88) = false := by rw [beq_eq_false_iff_ne]; omega
  have b85 : ((sg : Int) == 85) = false := by rw [beq_eq_false_iff_ne]; omega
  have b82 : ((sg : Int) == 82) = false := by rw [beq_eq_false_iff_ne]; omega
  have hlt : sg < 128 := by omega
  obtain ⟨E, hE⟩ : ∃ E, E = bs [b8 sg] := ⟨_, rfl⟩
  have hcv : ∀ w : World, (convert 5 9 (.int .u8 (sg : Int))).run Try.prog w = .ok (.string E) w := by
    intro w
    rw [run_convert_int_string w 5 9 .u8 (sg : Int) (by rw [Try.underlying5]; rfl) Try.underlying9, enc_of sg hlt, hE]
  obtain ⟨S, hS⟩ : ∃ S, S = bs [33, b8 sg] := ⟨_, rfl⟩
  have s1 : ∀ w : World, (Op.stringOp .add ⟨#[33]⟩ E).run Try.prog w = .ok (.string S) w := by rw [hE, hS]; exact sum_bs (a := [33]) (by simp) rfl
  have HE : Hid (E = bs [b8 sg]) := hE
  have HS : Hid (S = bs [33, b8 sg]) := hS
  clear hc hE hS
  cases neg with
  | true =>
    go_enter Try.func33, Try.ntmps33
    go_wp2_with fail
    refine (pushedSign_0 true _).mono ?_
    rintro e w1 ⟨rfl, rfl⟩
    generalize bs [b8 (tn true 0)] = X
    clear n0 n1 n2 n3 n4 c2 hi2 hi lt glt
    go_wp2_with fail
    go_ret
    exact ⟨ret_str HS.out, (Below.refl _ _).alloc (Nat.le_refl _) _⟩
  | false =>
    go_enter Try.func33, Try.ntmps33
    go_wp2_with fail
    refine (pushedSign_0 false _).mono ?_
    rintro e w1 ⟨rfl, rfl⟩
    generalize bs [b8 (tn false 0)] = X
    clear n0 n1 n2 n3 n4 c2 hi2 hi lt glt s1 HS
    go_wp2_with fail
    go_ret
    exact ⟨ret_str HE.out, (Below.refl _ _).alloc (Nat.le_refl _) _⟩

end Go.Proofs.Ytkjnhhbibaimfaa
