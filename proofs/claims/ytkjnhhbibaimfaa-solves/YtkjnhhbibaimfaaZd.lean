import Derived.Test.YtkjnhhbibaimfaaZc
namespace Go.Proofs.Ytkjnhhbibaimfaa
open Go.RowKit Fw
open Go.Deep (BT)
set_option linter.unusedVariables false

set_option maxRecDepth 100000 in
set_option maxHeartbeats 2000000 in
theorem way_core (neg : Bool) (s A B L R S0 S1 S2 S3 S4 : ByteArray) (tf : Nat → ByteArray) (m M1 Z c c0 : Nat) (w : World) (hz : s.size ≤ 60) (hp : 0 < s.size) (hp1 : 1 < s.size) (h0 : s[0].toNat = c0) (h1 : s[1].toNat = 91) (hms : m < s.size) (hmid : s[m].toNat = c)
    (b33 : ((c0 : Int) == 33) = false) (b40 : ((c0 : Int) == 40) = false) (hq : ((c0 : Int) != 69) = false ∨ (((c0 : Int) != 69) = true ∧ ((c0 : Int) != 65) = false))
    (HE : Hid (s.size - (auto [102] (tl s 2)).2.length = m)) (hA : s.extract 2 m = A) (hB : s.extract M1 Z = B) (w1 : IntKind.i64.wrap ((m : Int) + 1) = (M1 : Int)) (w2 : IntKind.i64.wrap ((s.size : Int) - 1) = (Z : Int))
    (k1 : (2 : Int) ≤ (m : Int)) (k2 : (m : Int) ≤ (s.size : Int)) (k2' : (m : Int) < (s.size : Int)) (k0 : (0 : Int) ≤ (m : Int)) (k00 : (0 : Int) ≤ (M1 : Int)) (k3 : (M1 : Int) ≤ (Z : Int)) (k4 : (Z : Int) ≤ (s.size : Int)) (k5 : M1 ≤ Z) (k6 : Z ≤ s.size)
    (HL : Hid (∀ w, Calls Try.prog 55 #[.string A, .bool neg] w fun e w' => e = .returned (.string L) ∧ Below w.heap.size w w'))
    (HR : Hid (∀ w, Calls Try.prog 55 #[.string B, .bool neg] w fun e w' => e = .returned (.string R) ∧ Below w.heap.size w w'))
    (HT : Hid (∀ x, x = c0 ∨ x = c → ∀ w, Calls Try.prog 77 #[.int .u8 ((x : Nat) : Int), .bool neg] w fun e w' => e = .returned (.string (tf x)) ∧ Below w.heap.size w w'))
    (s0 : ∀ w : World, (Op.stringOp .add (tf c0) ⟨#[91]⟩).run Try.prog w = .ok (.string S0) w) (s1 : ∀ w : World, (Op.stringOp .add S0 L).run Try.prog w = .ok (.string S1) w) (s2 : ∀ w : World, (Op.stringOp .add S1 (tf c)).run Try.prog w = .ok (.string S2) w)
    (s3 : ∀ w : World, (Op.stringOp .add S2 R).run Try.prog w = .ok (.string S3) w) (s4 : ∀ w : World, (Op.stringOp .add S3 ⟨#[93]⟩).run Try.prog w = .ok (.string S4) w) :
    Calls Try.prog 55 #[.string s, .bool neg] w fun e w' => e = .returned (.string S4) ∧ Below w.heap.size w w' := by
  have k9 : (0 : Int) < (s.size : Int) := by omega
  rcases hq with hq | ⟨hq, hq2⟩
  all_goals
    go_enter Try.func55, Try.ntmps55
    go_wp2_with fail
    refine (end_2 s _ hz (by omega)).mono ?_
    rintro e w1 ⟨rfl, rfl⟩
    rw [HE.out]
    go_wp2_with fail
    go_region_held3 (fun _ => True) (trivial) (first
      | (go_at_call_of 55 A; refine (HL.out _).mono ?_; rintro e wA ⟨rfl, hbA⟩)
      | (go_at_call_of 55 B; refine (HR.out _).mono ?_; rintro e wB ⟨rfl, hbB⟩)
      | (go_at_call_of 77 (c0); refine (HT.out c0 (.inl rfl) _).mono ?_; rintro e wS ⟨rfl, hbS⟩)
      | (go_at_call_of 77 (c); refine (HT.out c (.inr rfl) _).mono ?_; rintro e wT ⟨rfl, hbT⟩))
    all_goals
      go_wp2
      go_ret
      exact ⟨rfl, (((((Below.refl _ _).drew).trans hbS).trans (hbA.mono hbS.size)).trans (hbT.mono (Nat.le_trans hbS.size hbA.size))).trans (hbB.mono (Nat.le_trans (Nat.le_trans hbS.size hbA.size) hbT.size))⟩

end Go.Proofs.Ytkjnhhbibaimfaa
