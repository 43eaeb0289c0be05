import Derived.Test.YtkjnhhbibaimfaaSk
import Derived.Test.YtkjnhhbibaimfaaZe
import Derived.OwnWalk
namespace Go.Proofs.Ytkjnhhbibaimfaa
open Go.RowKit Fw
open Go.Deep (BT)
set_option linter.unusedVariables false

set_option maxRecDepth 100000 in
set_option maxHeartbeats 1000000 in
theorem parts_core (s A B : ByteArray) (p m M1 Z c : Nat) (w : World) (hz : s.size ≤ 60) (hp : p ≤ s.size) (hms : m < s.size) (hmid : s[m].toNat = c)
    (HE : Hid (s.size - (auto [102] (tl s p)).2.length = m)) (hA : s.extract p m = A) (hB : s.extract M1 Z = B) (w1 : IntKind.i64.wrap ((m : Int) + 1) = (M1 : Int)) (w2 : IntKind.i64.wrap ((s.size : Int) - 1) = (Z : Int))
    (k1 : (p : Int) ≤ (m : Int)) (k2 : (m : Int) ≤ (s.size : Int)) (k2' : (m : Int) < (s.size : Int)) (k0 : (0 : Int) ≤ (m : Int)) (kp : (0 : Int) ≤ (p : Int)) (k00 : (0 : Int) ≤ (M1 : Int)) (k3 : (M1 : Int) ≤ (Z : Int)) (k4 : (Z : Int) ≤ (s.size : Int)) (k5 : M1 ≤ Z) (k6 : Z ≤ s.size) (k7 : p ≤ m) :
    Calls Try.prog 80 #[.string s, .int .i64 (p : Int)] w fun e w' => e = .returned (.tuple #[.string A, .string B, .int .u8 (c : Int)]) ∧ ∃ n, w' = w.drewN n := by
  go_enter Try.func80, Try.ntmps80
  go_wp2_with fail
  refine (end_any s p _ hz hp).mono ?_
  rintro e w1 ⟨rfl, rfl⟩
  rw [HE.out]
  go_wp2_with fail
  go_quiet (fail)
  go_wp2
  go_ret3
  exact ⟨rfl, _, rfl⟩

def fairOk (f : ByteArray) : Bool := decide (f.size ≤ 2) && decide (scan 122 97 (tl f 0) = f.size)

set_option maxRecDepth 100000 in
set_option maxHeartbeats 1000000 in
theorem isFair_is (f : ByteArray) (w : World) (hf : f.size ≤ 9223372036854775807) :
    Calls Try.prog 78 #[.string f] w fun e w' => e = .returned (.bool (fairOk f)) ∧ ∃ n, w' = w.drewN n := by
  unfold fairOk
  by_cases h : f.size ≤ 2
  · have hd : decide ((f.size : Int) ≤ 2) = true := by simp; omega
    have hn : decide (f.size ≤ 2) = true := by simp; omega
    have HQ : Hid ((((scan 122 97 (tl f 0) : Nat) : Int) == (f.size : Int)) = decide (scan 122 97 (tl f 0) = f.size)) := by
      show _ = _
      rw [Bool.eq_iff_iff, beq_iff_eq, decide_eq_true_eq]; omega
    rw [hn]
    obtain ⟨q, hq⟩ : ∃ q, q = scan 122 97 (tl f 0) := ⟨_, rfl⟩
    have HC : ∀ w', Calls Try.prog 73 #[.string f, .int .u8 97, .int .u8 122] w' fun e w'' => e = .returned (.int .i64 (q : Int)) ∧ ∃ n, w'' = w'.drewN n := by
      intro w'
      rw [hq]
      exact rises_any f 97 122 w' (by omega) (by omega) (by omega)
    rw [← hq]
    rw [← hq] at HQ
    clear hq
    go_enter Try.func78, Try.ntmps78
    go_wp2_with (go_at_call 73; refine (HC _).mono ?_; rintro e w1 ⟨rfl, n, rfl⟩)
    go_ret
    exact ⟨by rw [HQ.out, Bool.true_and]; rfl, _, rfl⟩
  · have hd : decide ((f.size : Int) ≤ 2) = false := by simp; omega
    have hn : decide (f.size ≤ 2) = false := by simp; omega
    rw [hn]
    go_enter Try.func78, Try.ntmps78
    go_wp2_with fail
    go_ret
    exact ⟨rfl, 0, rfl⟩

end Go.Proofs.Ytkjnhhbibaimfaa
