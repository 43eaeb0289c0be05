import Derived.Test.YtkjnhhbibaimfaaZb
namespace Go.Proofs.Ytkjnhhbibaimfaa
open Go.RowKit Fw
open Go.Deep (BT)
set_option linter.unusedVariables false

/-- a sum of two strings, whatever the world -/
def Sum (a b c : ByteArray) : Prop := ∀ w : World, (Op.stringOp .add a b).run Try.prog w = .ok (.string c) w

theorem sum_of {a b c : ByteArray} (h : a.size + b.size ≤ 10000) (hc : a ++ b = c) : Sum a b c := by
  intro w
  rw [run_string_add_sum w a b (by omega), hc]

set_option maxRecDepth 100000 in
set_option maxHeartbeats 1000000 in
theorem bin_core (neg : Bool) (s A B L T R S1 S2 S3 S4 : ByteArray) (m M1 Z c : Nat) (w : World) (hz : s.size ≤ 60) (hp : 0 < s.size) (h0 : s[0].toNat = 40) (hms : m < s.size) (hmid : s[m].toNat = c)
    (HE : Hid (s.size - (auto [102] (tl s 1)).2.length = m)) (hA : s.extract 1 m = A) (hB : s.extract M1 Z = B) (w1 : IntKind.i64.wrap ((m : Int) + 1) = (M1 : Int)) (w2 : IntKind.i64.wrap ((s.size : Int) - 1) = (Z : Int))
    (k1 : (1 : Int) ≤ (m : Int)) (k2 : (m : Int) ≤ (s.size : Int)) (k2' : (m : Int) < (s.size : Int)) (k0 : (0 : Int) ≤ (m : Int)) (k00 : (0 : Int) ≤ (M1 : Int)) (k3 : (M1 : Int) ≤ (Z : Int)) (k4 : (Z : Int) ≤ (s.size : Int)) (k5 : M1 ≤ Z) (k6 : Z ≤ s.size)
    (HL : Hid (∀ w, Calls Try.prog 55 #[.string A, .bool neg] w fun e w' => e = .returned (.string L) ∧ Below w.heap.size w w'))
    (HR : Hid (∀ w, Calls Try.prog 55 #[.string B, .bool neg] w fun e w' => e = .returned (.string R) ∧ Below w.heap.size w w'))
    (HT : Hid (∀ w, Calls Try.prog 77 #[.int .u8 (c : Int), .bool neg] w fun e w' => e = .returned (.string T) ∧ Below w.heap.size w w'))
    (s1 : ∀ w : World, (Op.stringOp .add ⟨#[40]⟩ L).run Try.prog w = .ok (.string S1) w) (s2 : ∀ w : World, (Op.stringOp .add S1 T).run Try.prog w = .ok (.string S2) w)
    (s3 : ∀ w : World, (Op.stringOp .add S2 R).run Try.prog w = .ok (.string S3) w) (s4 : ∀ w : World, (Op.stringOp .add S3 ⟨#[41]⟩).run Try.prog w = .ok (.string S4) w) :
    Calls Try.prog 55 #[.string s, .bool neg] w fun e w' => e = .returned (.string S4) ∧ Below w.heap.size w w' := by
  go_enter Try.func55, Try.ntmps55
  go_wp2_with fail
  refine (end_1 s _ hz (by omega)).mono ?_
  rintro e w1 ⟨rfl, rfl⟩
  rw [HE.out]
  go_wp2_with fail
  go_region_held3 (fun _ => True) (trivial) (first
    | (go_at_call_of 55 A; refine (HL.out _).mono ?_; rintro e wA ⟨rfl, hbA⟩)
    | (go_at_call_of 55 B; refine (HR.out _).mono ?_; rintro e wB ⟨rfl, hbB⟩)
    | (go_at_call 77; refine (HT.out _).mono ?_; rintro e wT ⟨rfl, hbT⟩))
  all_goals
    go_wp2
    go_ret
    exact ⟨rfl, ((((Below.refl _ _).drew).trans hbA).trans (hbT.mono hbA.size)).trans (hbB.mono (Nat.le_trans hbA.size hbT.size))⟩

set_option maxRecDepth 100000 in
set_option maxHeartbeats 1000000 in
theorem x_core (neg : Bool) (s A L T S1 S2 : ByteArray) (c0 : Nat) (w : World) (hz : s.size ≤ 60) (hp : 0 < s.size) (hp1 : 1 < s.size) (hp2 : 2 ≤ s.size) (h0 : s[0].toNat = c0) (h1 : s[1].toNat = 88) (hA : s.extract 2 s.size = A)
    (b33 : ((c0 : Int) == 33) = false) (b40 : ((c0 : Int) == 40) = false) (hq : ((c0 : Int) != 69) = false ∨ (((c0 : Int) != 69) = true ∧ ((c0 : Int) != 65) = false))
    (HL : Hid (∀ w, Calls Try.prog 55 #[.string A, .bool neg] w fun e w' => e = .returned (.string L) ∧ Below w.heap.size w w'))
    (HT : Hid (∀ w, Calls Try.prog 77 #[.int .u8 (c0 : Int), .bool neg] w fun e w' => e = .returned (.string T) ∧ Below w.heap.size w w'))
    (s1 : ∀ w : World, (Op.stringOp .add T ⟨#[88]⟩).run Try.prog w = .ok (.string S1) w) (s2 : ∀ w : World, (Op.stringOp .add S1 L).run Try.prog w = .ok (.string S2) w) :
    Calls Try.prog 55 #[.string s, .bool neg] w fun e w' => e = .returned (.string S2) ∧ Below w.heap.size w w' := by
  have k1 : (0 : Int) < (s.size : Int) := by omega
  have k2 : (2 : Int) ≤ (s.size : Int) := by omega
  rcases hq with hq | ⟨hq, hq2⟩
  all_goals
    go_enter Try.func55, Try.ntmps55
    go_wp2_with fail
    go_region_held3 (fun _ => True) (trivial) (first
      | (go_at_call_of 55 A; refine (HL.out _).mono ?_; rintro e wA ⟨rfl, hbA⟩)
      | (go_at_call 77; refine (HT.out _).mono ?_; rintro e wT ⟨rfl, hbT⟩))
    all_goals
      go_wp2
      go_ret
      exact ⟨rfl, (((Below.refl _ _).drew).trans hbT).trans (hbA.mono hbT.size)⟩

end Go.Proofs.Ytkjnhhbibaimfaa
