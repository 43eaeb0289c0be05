import Derived.Test.YtcfbfdjmcabnkaaChecked
import Derived.WalkKit
import Derived.WalkSpells
import Derived.WalkLawsBesides
import Derived.BigQuiet
import Derived.Test.YtcfbfdjmcabnkaaG1
namespace Go.Proofs.Ytcfbfdjmcabnkaa
open Go.RowKit Fw
set_option linter.unusedVariables false

theorem ret_int {k : IntKind} {a b : Int} (h : a = b) : Ending.returned (.int k a) = .returned (.int k b) := by rw [h]

set_option maxHeartbeats 400000 in
theorem stands_any (s : ByteArray) (p : Nat) (c : Nat) (w : World) (hs : s.size ≤ 210) (hp : p ≤ 211) (hc : c < 256) :
    Calls Try.prog 78 #[.string s, .int .i64 p, .int .u8 c] w fun e w' => e = .returned (.bool (decide (∃ h : p < s.size, s[p].toNat = c))) ∧ w' = w := by
  by_cases hlt : p < s.size
  · by_cases he : s[p].toNat = c
    · have he' : ((s[p].toNat : Int) == (c : Int)) = true := by rw [beq_iff_eq]; omega
      go_enter Try.func78, Try.ntmps78
      go_wp2
      go_ret
      exact ⟨by simp [hlt, he], rfl⟩
    · have he' : ((s[p].toNat : Int) == (c : Int)) = false := by rw [beq_eq_false_iff_ne]; omega
      go_enter Try.func78, Try.ntmps78
      go_wp2
      go_ret
      exact ⟨by simp [hlt, he], rfl⟩
  · go_enter Try.func78, Try.ntmps78
    go_wp2
    go_ret
    exact ⟨by simp [hlt], rfl⟩

set_option maxHeartbeats 400000 in
theorem skip_any (s : ByteArray) (p : Nat) (w : World) (hs : s.size ≤ 210) (hp : p ≤ s.size) :
    Calls Try.prog 45 #[.string s, .int .i64 p] w fun e w' => e = .returned (.int .i64 ((p + scan 122 97 (tl s p) : Nat) : Int)) ∧ w' = w := by
  go_enter Try.func45, Try.ntmps45
  go_wp2
  go_loop [1, 5] (fun q l => ∃ k lo : Nat, k ≤ s.size ∧ lo ≤ 123 ∧ q = .int .i64 k ∧ l = .int .u8 lo ∧ Hid (k + scan 122 lo (tl s k) = p + scan 122 97 (tl s p))) (fun q _ => s.size - (intOf q).toNat)
  case atStart => exact ⟨p, 97, hp, by omega, rfl, rfl, rfl⟩
  case round =>
    obtain ⟨k, lo, hk, hlo, rfl, rfl, HS⟩ := hrel
    by_cases hlt : k < s.size
    · by_cases h1 : (lo : Int) ≤ (s[k].toNat : Int)
      · by_cases h2 : (s[k].toNat : Int) ≤ 122
        · go_wp2
          go_round
          case rel =>
            refine ⟨k + 1, s[k].toNat + 1, by omega, by omega, by go_num, by go_num, ?_⟩
            have := scan_yes s 122 lo k hlt (by omega) (by omega)
            have h := HS.out
            show _ = _
            omega
          case measure => simp [intOf]; omega
        · go_wp2
          go_ret
          have := scan_no s 122 lo k hlt (by omega)
          have h := HS.out
          exact ⟨ret_int (by omega), rfl⟩
      · go_wp2
        go_ret
        have := scan_no s 122 lo k hlt (by omega)
        have h := HS.out
        exact ⟨ret_int (by omega), rfl⟩
    · go_wp2
      go_ret
      have := scan_end s 122 lo k (by omega)
      have h := HS.out
      exact ⟨ret_int (by omega), rfl⟩

theorem i64_sub_one (k : Nat) (h : 0 < k) (h2 : k ≤ 210) : IntKind.i64.wrap ((k : Int) - 1) = ((k - 1 : Nat) : Int) := by
  rw [IntKind.wrap_i64]; omega

/-- the lowest byte that may follow, at a place of 'rises' -/
def LowAt (s : ByteArray) (lo L k : Nat) : Prop := (k = 0 ∧ L = lo) ∨ (0 < k ∧ lo ≤ L ∧ ∃ h : k - 1 < s.size, s[k - 1].toNat + 1 = L)

theorem LowAt.le {s : ByteArray} {lo L k : Nat} (h : LowAt s lo L k) : lo ≤ L := by
  rcases h with ⟨_, h⟩ | ⟨_, h, _⟩ <;> omega

end Go.Proofs.Ytcfbfdjmcabnkaa

